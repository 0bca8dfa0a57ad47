package gate

import "drawknife/api"

// mutex is whose it is, if anybody's, and who waits for it. Nobody waits for one that is nobody's.
type mutex struct {
	row
	owner int
	owned bool
}

// isOf: is it someone's? Any number may be someone, so that it is owned is told apart.
func (m *mutex) isOf(who int) bool { return m.owned && m.owner == who }

// lock: someone has it, if nobody did; else they wait.
func (m *mutex) lock(who int) bool {
	if m.owned {
		m.join(who)
		return false
	}
	m.owner, m.owned = who, true
	return true
}

// unlock: it goes straight to the one by choice, so that nobody comes between; where none waits it is nobody's.
func (m *mutex) unlock(choice int) (int, bool) {
	m.owner, m.owned = m.take(choice)
	return m.owner, m.owned
}

// cond is who waits for it, each with the mutex that they gave up.
type cond struct {
	row
	with map[int]int
}

// sleeper is who waited for a condition, and the mutex that they are to have again.
type sleeper struct {
	who   int
	mutex int
}

// wait: someone comes behind, with a mutex.
func (c *cond) wait(who, m int) {
	c.join(who)
	c.with[who] = m
}

// signal is who waits here no more: the one by choice, or each one, in order.
func (c *cond) signal(choice int, all bool) []sleeper {
	if all {
		return c.wakeAll()
	}
	who, waited := c.take(choice)
	if !waited {
		return nil
	}
	return []sleeper{c.wake(who)}
}

// wakeAll is each one that waited, in order.
func (c *cond) wakeAll() []sleeper {
	var list []sleeper
	for _, who := range c.people {
		list = append(list, c.wake(who))
	}
	c.people = nil
	return list
}

// wake is someone with their mutex, which is kept no longer.
func (c *cond) wake(who int) sleeper {
	m := c.with[who]
	delete(c.with, who)
	return sleeper{who, m}
}

// semaphore is a count, and who waits for it to be above 0.
type semaphore struct {
	row
	count int
}

// down: one less; where there is none someone waits.
func (s *semaphore) down(who int) bool {
	if s.count == 0 {
		s.join(who)
		return false
	}
	s.count--
	return true
}

// up: the one by choice goes on, and the count stays; where none waits it is one more.
func (s *semaphore) up(choice int) (int, bool, api.Errno) {
	if who, waited := s.take(choice); waited {
		return who, true, api.OK
	}
	if s.count == api.MaxCount {
		return 0, false, api.ErrFull
	}
	s.count++
	return 0, false, api.OK
}
