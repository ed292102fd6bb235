package fold

import (
	"gantry/api"
	"gantry/word"
)

// misfit is what a rule that does not fit panics with: a type of its own, so that no other panic is taken for one.
type misfit struct{}

// need: behind what does not hold a rule is not followed.
func need(holds bool) {
	if !holds {
		panic(misfit{})
	}
}

// known is a word that there is.
func known(x uint64, e api.Errno) uint64 {
	need(e == api.OK)
	return x
}

// fits follows a rule for n; false, if none fits.
func (f *folder) fits(n int) (did bool) {
	defer func() {
		x := recover()
		if _, own := x.(misfit); x != nil && !own {
			panic(x)
		}
	}()
	f.rule(n)
	return true
}

// rule makes of n what is known of it, or lets what it is stand for it. A rule asks all that it needs ahead of all that it changes.
func (f *folder) rule(n int) {
	need(!f.stands.Gone(n))
	v := &f.Values[n]
	if v.Op != api.OpPhi { // an OpPhi's Args are many, and are looked through as they are
		f.stands.Put(v.Args)
	}
	switch v.Op {
	case api.OpUn:
		f.un(n, v)
	case api.OpBin:
		f.bin(n, v)
	case api.OpConv:
		f.conv(n, v)
	case api.OpSel:
		f.sel(n, v)
	case api.OpAddr:
		f.addr(n, v)
	case api.OpPhi:
		need(v.Kind != api.KindMem)
		x, is := f.stands.Single(n, v.Args, &f.apart[n])
		need(is)
		f.stand(n, x)
	default:
		panic(misfit{})
	}
}

func (f *folder) arg(v *api.Value, i int) *api.Value { return &f.Values[v.Args[i]] }

func (f *folder) un(n int, v *api.Value) {
	x := f.arg(v, 0)
	switch x.Op {
	case api.OpConst:
		f.become(n, known(word.Un(int(v.N), x.Kind, uint64(x.N))))
	case api.OpUn:
		need(x.N == v.N)
		f.stand(n, x.Args[0])
	default:
		panic(misfit{})
	}
}

func (f *folder) conv(n int, v *api.Value) {
	x := f.arg(v, 0)
	if x.Kind == v.Kind {
		f.stand(n, v.Args[0])
		return
	}
	need(x.Op == api.OpConst)
	f.become(n, known(word.Conv(x.Kind, v.Kind, uint64(x.N))))
}

func (f *folder) sel(n int, v *api.Value) {
	if c := f.arg(v, 0); c.Op == api.OpConst {
		f.stand(n, v.Args[2-c.N])
		return
	}
	need(v.Args[1] == v.Args[2])
	f.stand(n, v.Args[1])
}

func (f *folder) addr(n int, v *api.Value) {
	switch x := f.arg(v, 0); {
	case len(v.Args) == 2:
		i := f.arg(v, 1)
		need(i.Op == api.OpConst)
		// Modulo 2^64, as the address is.
		far := uint64(v.N) + uint64(v.M)*uint64(i.N)
		need(far <= api.MaxSize)
		v.N, v.M, v.Args = int64(far), 0, v.Args[:1:1]
		f.wait(f.users[n])
	case v.N == 0:
		f.stand(n, v.Args[0])
	default:
		need(x.Op == api.OpAddr && len(x.Args) == 1 && v.N+x.N <= api.MaxSize)
		v.N += x.N
		v.Args[0] = f.stands.Of(x.Args[0])
		f.use(n, v.Args[0])
	}
}
