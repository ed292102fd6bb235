package eval

import (
	"gantry/api"
	"gantry/course"
	"gantry/word"
)

// value works a value out that is no OpPhi.
func (f *frame) value(v *api.Value) uint64 {
	switch v.Op {
	case api.OpConst:
		return uint64(v.N)
	case api.OpArg:
		return f.args[v.N]
	case api.OpUn:
		return known(word.Un(int(v.N), v.Kind, f.arg(v, 0)))
	case api.OpBin:
		return known(word.Bin(int(v.N), f.kind(v, 0), f.arg(v, 0), f.arg(v, 1)))
	case api.OpConv:
		return known(word.Conv(f.kind(v, 0), v.Kind, f.arg(v, 0)))
	case api.OpSel:
		return f.arg(v, 2-int(f.arg(v, 0)))
	case api.OpLoad:
		return known(f.Memory().Load(f.spot(v, v.Kind), v.Kind))
	case api.OpStore:
		k := f.kind(v, 1)
		return known(0, f.Memory().Store(f.spot(v, k), k, f.arg(v, 1)))
	case api.OpAlloc:
		return f.Block(f.arg(v, 0))
	case api.OpBlock:
		return f.arg(v, 0)
	case api.OpEmit:
		f.Emit(f.arg(v, 0))
	case api.OpCall:
		return uint64(f.call(int(v.N), f.of(v.Args[:len(v.Args)-1])))
	case api.OpResult:
		return f.Told.Calls[f.arg(v, 0)].Results[v.N]
	case api.OpData:
		return api.DataBase + uint64(v.N)
	case api.OpAddr:
		return f.address(v)
	}
	return 0
}

// arg tells the word of the i-th of a value's Args, kind its kind.
func (f *frame) arg(v *api.Value, i int) uint64 { return f.words[v.Args[i]] }

func (f *frame) kind(v *api.Value, i int) int { return f.Values[v.Args[i]].Kind }

// known: behind an error nothing goes on.
func known(x uint64, e api.Errno) uint64 {
	if e != api.OK {
		course.Stop(api.EndStuck, 0)
	}
	return x
}

// spot tells where an OpLoad, an OpStore finds a word of that kind.
func (f *frame) spot(v *api.Value, kind int) uint64 {
	a := f.arg(v, 0) + uint64(v.N)
	if !f.Holds(a, word.Bytes(kind)) {
		course.Stop(api.EndStuck, 0)
	}
	return a
}

func (f *frame) address(v *api.Value) uint64 {
	a := f.arg(v, 0) + uint64(v.N)
	if len(v.Args) == 2 {
		a += uint64(v.M) * f.arg(v, 1)
	}
	return a
}
