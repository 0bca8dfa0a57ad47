package lib

import (
	"drawknife/api"
	"drawknife/event"
	"drawknife/vessel"
)

// classLibrary is core's class of the instructions that are done within a section.
const classLibrary = 2

// Step: a processor's next step.
func (l *Lib) Step(proc, choice int) (Did, api.Errno) {
	if !l.has(proc) {
		return Did{}, api.ErrIdle
	}
	return l.step(proc, choice), api.OK
}

// step is one of a processor that the space has, by its Mode.
func (l *Lib) step(proc, choice int) Did {
	switch l.vessels[proc].Mode {
	case api.Upcall:
		return l.upcall(proc, choice)
	case api.Running:
		return l.run(proc, choice)
	case api.Inside:
		return l.inside(proc, choice)
	case api.Handle:
		l.handle(proc)
	case api.Seek:
		l.begin(proc, api.Pick)
	case api.Pick:
		l.pick(proc)
	case api.Enter:
		l.begin(proc, api.Inside)
	case api.Resting:
		l.rest(proc)
	}
	return Did{}
}

// in is a processor in a mode with a thread, or with nobody.
func in(mode, thread int) vessel.Vessel { return vessel.Vessel{Mode: mode, Thread: thread} }

// begin: a section, if none is on its way; its thread and its events go along.
func (l *Lib) begin(proc, mode int) {
	if l.locked {
		return
	}
	l.locked = true
	l.vessels[proc].Mode = mode
}

// end: the section, behind which a processor is in something else.
func (l *Lib) end(proc int, v vessel.Vessel) {
	l.locked = false
	l.vessels[proc] = v
}

// come: threads come into a processor's row, in order.
func (l *Lib) come(proc int, threads ...int) {
	for _, thread := range threads {
		l.rows.Add(proc, thread)
	}
}

// commit: a thread's next instruction is done. Of one that does not run nothing comes, and so its effect is nothing.
func (l *Lib) commit(thread, choice int) Did {
	effect, _ := l.space.Run(thread, choice)
	return Did{Commit: true, Slot: thread, Effect: effect}
}

// upcall: a section that was cut off is taken to its end ahead of all else, since as long as it is locked nobody else may begin one.
func (l *Lib) upcall(proc, choice int) Did {
	cut, others, there := event.Within(l.vessels[proc].Events)
	if !there {
		l.begin(proc, api.Handle)
		return Did{}
	}
	l.end(proc, vessel.New(others))
	if cut.Mode != api.Inside {
		return Did{}
	}
	did := l.commit(cut.Thread, choice)
	l.come(proc, did.Effect.Woken...)
	if !did.Effect.Stopped && !did.Effect.Ended {
		// The processor that it was on is gone: it goes on from a row.
		l.come(proc, cut.Thread)
	}
	return did
}

// handle: an event is looked at, or all were.
func (l *Lib) handle(proc int) {
	v := &l.vessels[proc]
	if len(v.Events) == 0 {
		l.end(proc, in(api.Seek, nobody))
		return
	}
	first := v.Events[0]
	v.Events = v.Events[1:]
	if thread, runs := event.Runs(first); runs {
		l.come(proc, thread)
	}
}

// pick: a thread is looked for.
func (l *Lib) pick(proc int) {
	if thread, there := l.rows.Pick(proc); there {
		l.end(proc, in(api.Running, thread))
	} else {
		l.end(proc, in(api.Resting, nobody))
	}
}

// rest: until a row has a thread.
func (l *Lib) rest(proc int) {
	if !l.rows.Empty() {
		l.vessels[proc] = in(api.Seek, nobody)
	}
}

// run: its thread does an instruction, unless that is to be done within a section.
func (l *Lib) run(proc, choice int) Did {
	thread := l.vessels[proc].Thread
	if l.space.Class(thread) == classLibrary {
		l.vessels[proc] = in(api.Enter, thread)
		return Did{}
	}
	did := l.commit(thread, choice)
	switch {
	case did.Effect.Stopped:
		l.vessels[proc] = vessel.New([]api.Event{{Kind: api.Blocked, Thread: thread}})
	case did.Effect.Ended:
		l.vessels[proc] = in(api.Seek, nobody)
	}
	// The kernel did it, and so who goes on is told of as by the kernel, perhaps to this very processor.
	l.Tell(unblocked(did.Effect.Woken...))
	return did
}

// inside: its thread does an instruction of the library, and the section ends.
func (l *Lib) inside(proc, choice int) Did {
	thread := l.vessels[proc].Thread
	did := l.commit(thread, choice)
	l.come(proc, did.Effect.Woken...)
	switch {
	case did.Effect.Yielded:
		l.come(proc, thread)
		l.end(proc, in(api.Seek, nobody))
	case did.Effect.Stopped, did.Effect.Ended:
		l.end(proc, in(api.Seek, nobody))
	default:
		l.end(proc, in(api.Running, thread))
	}
	return did
}
