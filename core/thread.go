package core

import (
	"drawknife/api"
	"drawknife/frame"
)

// errorAt is the register that is a thread's error.
const errorAt = 7

// ofFault is the Value of a thread that a fault ends.
const ofFault = 1<<64 - 1

// thread is one that has a slot.
type thread struct {
	frame.Frame
	why      int
	within   api.Instr // what it is blocked in, while it is
	value    uint64    // once it is Finished
	detached bool
	joined   bool
	joiner   int // who joins it, if joined
}

// waking is someone who goes on, and the word that they get.
type waking struct {
	who int
	got uint64
}

// withNothing is people who go on, and get no word.
func withNothing(all []int) []waking {
	var list []waking
	for _, who := range all {
		list = append(list, waking{who: who})
	}
	return list
}

// look is how one sees it: its Value counts only behind its end, and is 0 ahead of it.
func (t *thread) look(handle uint64) api.Thread {
	return api.Thread{Handle: handle, Why: t.why, Func: t.Func, PC: t.PC, Regs: t.Regs, Value: t.value}
}

// block: it has passed an instruction, which goes on later.
func (t *thread) block(why int, i api.Instr) {
	t.why = why
	t.within = i
}

// goOn: what it was blocked in is done. Its error comes last, also behind a word that goes into the same register.
func (t *thread) goOn(got uint64) {
	t.why = api.Runs
	switch t.within.Op {
	case api.Join, api.Read, api.Get:
		t.Regs[t.within.A] = got
	}
	t.Regs[errorAt] = uint64(api.OK)
}

// thread is the one that has a slot; nil: none has it. A space that is nil has none.
func (s *Space) thread(at int) *thread {
	if s == nil {
		return nil
	}
	if _, used := s.slots.Handle(at); !used {
		return nil
	}
	return &s.threads[at]
}

// handle is that of a thread.
func (s *Space) handle(at int) uint64 {
	handle, _ := s.slots.Handle(at)
	return handle
}

// begin: a thread begins at a function, with a word; its slot.
func (s *Space) begin(function int, word uint64) (int, api.Errno) {
	at, _, e := s.slots.Take()
	if e != api.OK {
		return 0, e
	}
	s.threads[at] = thread{Frame: frame.Frame{Func: function, Regs: api.Regs8{word}}}
	return at, api.OK
}

// find is the slot of a thread, by a handle, that another one may join or detach; ErrNone, ErrBusy: it may not.
func (s *Space) find(own int, handle uint64) (int, api.Errno) {
	at, found := s.slots.Find(handle)
	if !found || at == own || s.threads[at].detached {
		return 0, api.ErrNone
	}
	if s.threads[at].joined {
		return 0, api.ErrBusy
	}
	return at, api.OK
}

// free: a thread's slot is free.
func (s *Space) free(at int) { s.slots.Free(s.handle(at)) }

// exit: a thread ends, and one sees it.
func (s *Space) exit(at int, value uint64) Effect {
	s.tell(at, api.Record{Op: api.Exit, X: value, End: true})
	return s.end(at, value)
}

// end: a thread ends. Who joins it takes its Value along; else it is kept for one who may come, but of a detached one nobody may.
func (s *Space) end(at int, value uint64) Effect {
	t := &s.threads[at]
	switch {
	case t.detached:
		s.free(at)
	case t.joined:
		s.free(at)
		return Effect{Ended: true, Woken: s.goOn(waking{who: t.joiner, got: value})}
	default:
		t.why = api.Finished
		t.value = value
	}
	return Effect{Ended: true}
}

// goOn: some go on, in order, and one sees it; their slots.
func (s *Space) goOn(all ...waking) []int {
	var slots []int
	for _, w := range all {
		t := &s.threads[w.who]
		t.goOn(w.got)
		s.tell(w.who, api.Record{Op: t.within.Op, Y: w.got, End: true})
		slots = append(slots, w.who)
	}
	return slots
}

// tell: one sees something of a thread.
func (s *Space) tell(at int, r api.Record) {
	r.Thread = s.handle(at)
	s.records = append(s.records, r)
}
