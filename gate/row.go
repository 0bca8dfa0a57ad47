package gate

import "slices"

// row is who waits, in the order in which they came. What has one embeds it.
type row struct {
	people []int
}

// join: someone comes behind.
func (r *row) join(who int) { r.people = append(r.people, who) }

// has: does someone wait here?
func (r *row) has(who int) bool { return slices.Contains(r.people, who) }

// take is the one by choice, who waits no more; false: there is none.
func (r *row) take(choice int) (int, bool) {
	length := len(r.people)
	if length == 0 {
		return 0, false
	}
	// The language's rest has the sign of what is divided, so one below 0 is brought up.
	at := (choice%length + length) % length
	who := r.people[at]
	r.people = slices.Delete(r.people, at, at+1)
	return who, true
}

// all is who waits, as a list of its own: the row goes on under what was answered.
func (r *row) all() []int { return append([]int(nil), r.people...) }
