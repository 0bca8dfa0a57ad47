package core

import (
	"slices"

	"drawknife/api"
	"drawknife/disk"
	"drawknife/frame"
	"drawknife/inst"
)

// deed is what came of an instruction of the library or the kernel.
type deed struct {
	x, y   uint64 // of its record
	result api.Errno
	why    int // on what the thread blocks; Runs: it was done at once
	begun  []int
	woken  []waking
}

// plain: a thread does a plain instruction.
func (s *Space) plain(at int, i api.Instr) Effect {
	t := &s.threads[at]
	behind, words, e := frame.Plain(t.Frame, i, s.memory)
	if inst.Seen(i.Op) {
		s.tell(at, access(i, t.Frame, behind, e))
	}
	if e != api.OK {
		return s.end(at, ofFault)
	}
	t.Frame, s.memory = behind, words
	return Effect{}
}

// access is the record of a Load or Store, by the frames ahead of it and behind it. Behind a fault a frame has nothing, so that Load got 0.
func access(i api.Instr, ahead, behind frame.Frame, e api.Errno) api.Record {
	r := api.Record{Op: i.Op, Result: e, End: true}
	if i.Op == api.Load {
		r.X, r.Y = ahead.Regs[i.B], behind.Regs[i.A]
	} else {
		r.X, r.Y = ahead.Regs[i.A], ahead.Regs[i.B]
	}
	return r
}

// act: a thread does an instruction of the library or the kernel, and one sees it, ahead of who goes on by it.
func (s *Space) act(at int, i api.Instr, choice int) Effect {
	t := &s.threads[at]
	d := s.do(at, i, choice)
	stopped := d.why != api.Runs
	t.PC++
	if stopped {
		t.block(d.why, i)
	} else {
		// Last of all, behind a word that may have gone into the same register.
		t.Regs[errorAt] = uint64(d.result)
	}
	s.tell(at, api.Record{Op: i.Op, X: d.x, Y: d.y, Result: d.result, End: !stopped})
	return Effect{
		// Who begins was blocked in nothing, and so has nothing to tell of.
		Woken:   append(d.begun, s.goOn(d.woken...)...),
		Stopped: stopped,
		Yielded: i.Op == api.Yield,
	}
}

// do is what comes of an instruction: the objects change, and the register that a word goes into at once.
func (s *Space) do(at int, i api.Instr, choice int) deed {
	t := &s.threads[at]
	switch i.Op {
	case api.Spawn:
		return s.spawn(t, i)
	case api.Self:
		t.Regs[i.A] = s.handle(at)
		return deed{y: t.Regs[i.A]}
	case api.Join:
		return s.join(at, t, i)
	case api.Detach:
		return s.detach(at, t.Regs[i.A])
	case api.Lock, api.Unlock, api.Wait, api.Signal, api.Broadcast, api.Down, api.Up:
		return s.pass(at, i, choice)
	case api.Read:
		return s.ask(disk.Request{Who: at}, t.Regs[i.B])
	case api.Write:
		return s.ask(disk.Request{Who: at, Write: true, X: t.Regs[i.B]}, t.Regs[i.A])
	case api.Put:
		return s.put(at, t, i)
	case api.Get:
		return s.get(at, t, i)
	case api.Sleep:
		return s.sleep(at, t.Regs[i.A])
	case api.Print:
		return deed{x: t.Regs[i.A]}
	}
	return deed{} // Yield
}

// spawn: a thread begins, and its handle goes to who began it; 0, if there is no slot.
func (s *Space) spawn(t *thread, i api.Instr) deed {
	at, e := s.begin(int(i.N), t.Regs[i.B])
	if e != api.OK {
		t.Regs[i.A] = 0
		return deed{x: i.N, result: e}
	}
	t.Regs[i.A] = s.handle(at)
	return deed{x: i.N, y: t.Regs[i.A], begun: []int{at}}
}

// join: a thread takes another one's Value, or blocks until there is one.
func (s *Space) join(own int, t *thread, i api.Instr) deed {
	d := deed{x: t.Regs[i.B]}
	var at int
	if at, d.result = s.find(own, d.x); d.result != api.OK {
		return d
	}
	other := &s.threads[at]
	if other.why != api.Finished {
		other.joined, other.joiner = true, own
		d.why = api.OnJoin
		return d
	}
	d.y = other.value
	t.Regs[i.A] = d.y
	s.free(at)
	return d
}

// detach: nobody will join a thread.
func (s *Space) detach(own int, handle uint64) deed {
	at, e := s.find(own, handle)
	switch {
	case e != api.OK:
	case s.threads[at].why == api.Finished:
		s.free(at)
	default:
		s.threads[at].detached = true
	}
	return deed{x: handle, result: e}
}

// pass: a thread does something at a mutex, a condition or a semaphore.
func (s *Space) pass(at int, i api.Instr, choice int) deed {
	n := int(i.N)
	d := deed{x: i.N}
	var next int
	var atOnce, waited bool
	switch i.Op {
	case api.Lock:
		atOnce, d.result = s.gates.Lock(at, n)
		d.blockIf(!atOnce, api.OnMutex)
	case api.Unlock:
		next, waited, d.result = s.gates.Unlock(at, n, choice)
		d.wakeIf(waited, next)
	case api.Wait:
		d.y = uint64(i.C)
		next, waited, d.result = s.gates.Wait(at, n, i.C, choice)
		d.blockIf(true, api.OnCond)
		d.wakeIf(waited, next)
	case api.Down:
		atOnce, d.result = s.gates.Down(at, n)
		d.blockIf(!atOnce, api.OnSem)
	case api.Up:
		next, waited, d.result = s.gates.Up(n, choice)
		d.wakeIf(waited, next)
	default:
		d.woken = withNothing(s.signal(n, choice, i.Op == api.Broadcast))
	}
	return d
}

// blockIf: the thread blocks where it waits, but what may not be done is over at once.
func (d *deed) blockIf(waits bool, why int) {
	if waits && d.result == api.OK {
		d.why = why
	}
}

// wakeIf: someone who waited goes on.
func (d *deed) wakeIf(waited bool, who int) {
	if waited {
		d.woken = append(d.woken, waking{who: who})
	}
}

// signal: some who wait for a condition do so no more; who of them goes on. There is such a condition, or the program would not be.
func (s *Space) signal(c, choice int, all bool) []int {
	ahead := s.gates.Waiters(api.OnCond, c)
	goOn, _ := s.gates.Signal(c, choice, all)
	behind := s.gates.Waiters(api.OnCond, c)
	for _, who := range ahead {
		if !slices.Contains(behind, who) {
			s.threads[who].why = api.OnMutex // those that have it already go on at once
		}
	}
	return goOn
}

// ask: a thread wants something of a block.
func (s *Space) ask(r disk.Request, block uint64) deed {
	r.Block = int(block) // a word of 2^63 and above comes below 0, where there is no block either
	d := deed{x: block, y: r.X, result: s.disk.Ask(r)}
	d.blockIf(true, api.OnDisk)
	return d
}

// put: a thread's word goes into a pipe, or to who waits for one.
func (s *Space) put(at int, t *thread, i api.Instr) deed {
	d := deed{x: i.N, y: t.Regs[i.A]}
	in, getter, waited := s.tubes[i.N].Put(at, d.y)
	d.blockIf(!in, api.OnPut)
	if waited {
		d.woken = []waking{{who: getter, got: d.y}}
	}
	return d
}

// get: a word comes out of a pipe, and the word of who waits to put goes in behind.
func (s *Space) get(at int, t *thread, i api.Instr) deed {
	d := deed{x: i.N}
	word, there, putter, waited := s.tubes[i.N].Get(at)
	if there {
		t.Regs[i.A], d.y = word, word
	}
	d.blockIf(!there, api.OnGet)
	d.wakeIf(waited, putter)
	return d
}

// sleep: a thread waits so many moments; of none it need not.
func (s *Space) sleep(at int, moments uint64) deed {
	d := deed{x: moments}
	if moments > 0 {
		d.result = s.wheel.Sleep(at, int(moments)) // a word of 2^63 and above comes below 0, and may not be either
		d.blockIf(true, api.OnSleep)
	}
	return d
}
