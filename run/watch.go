package run

import "gantry/api"

// watch writes down what is to be told of a run: its trace, and calls of the functions whose words' places it has.
type watch struct {
	places []api.Assign
	starts map[uint64]int // of each place that a function begins at: the first such function
	away   []frame        // calls that are not back, the last one behind
	told   api.Run
}

// frame is what a call needs to come back: its number among all calls, its place to go back to, its RegSP.
type frame struct {
	call int
	back uint64
	sp   uint64
}

// watchFor makes a watch. Without places no call is known: then no return is a wrong one either.
func watchFor(places []api.Assign, funcs []int) *watch {
	w := &watch{places: places, starts: map[uint64]int{}}
	for f := range places {
		start := uint64(funcs[f])
		if _, known := w.starts[start]; !known {
			w.starts[start] = f
		}
	}
	return w
}

// see takes what a step of i has left behind.
func (w *watch) see(i api.Inst, c *core) {
	switch i.Op {
	case api.InstEmit:
		w.told.Trace = append(w.told.Trace, c.regs[i.A])
	case api.InstCall:
		w.call(c, c.place-uint64(i.Imm))
	case api.InstRet:
		w.ret(c)
	}
}

func (w *watch) call(c *core, back uint64) {
	f, known := w.starts[c.place]
	if !known {
		return
	}
	sp := c.regs[api.RegSP]
	w.away = append(w.away, frame{call: len(w.told.Calls), back: back, sp: sp})
	w.told.Calls = append(w.told.Calls, api.Call{Func: f, Args: c.words(w.places[f].Args, sp)})
}

// ret ends the last call that is away; a return that is not its end must not be.
func (w *watch) ret(c *core) {
	if len(w.away) == 0 {
		return
	}
	last := w.away[len(w.away)-1]
	sp := c.regs[api.RegSP] - slot
	if c.place != last.back || sp != last.sp {
		c.finish(api.EndStuck, 0)
		return
	}
	w.away = w.away[:len(w.away)-1]
	call := &w.told.Calls[last.call]
	call.Back, call.Results = true, c.words(w.places[call.Func].Results, sp)
}

// words are those at places, where a call that has this RegSP has just begun, or is about to end. What is not in the memory is 0, as Load tells it.
func (c *core) words(at []api.Place, sp uint64) []uint64 {
	told := make([]uint64, len(at))
	for n, p := range at {
		if p.Stack {
			told[n], _ = c.memory.Load(sp+slot+slot*uint64(p.N), api.KindU64)
		} else {
			told[n] = c.regs[p.N]
		}
	}
	return told
}
