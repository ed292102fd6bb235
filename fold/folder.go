package fold

import (
	"slices"

	"gantry/api"
	"gantry/edit"
)

// folder folds a Code, whose lists are memory of its own.
type folder struct {
	*api.Code
	stands edit.Stands  // of each value the one that stands for it
	users  [][]int      // of each value those that have it among Args
	apart  []edit.Apart // of each OpPhi two of its Args
	waits  []bool       // of each value whether it is among next
	next   []int        // values whose rules may fit
}

// newFolder: each value waits behind its Args, as far as there are no loops: what these become is known then.
func newFolder(c *api.Code) *folder {
	many := len(c.Values)
	f := &folder{Code: c, stands: edit.NewStands(many), users: make([][]int, many), apart: make([]edit.Apart, many), waits: make([]bool, many)}
	for _, b := range edit.Order(c.Blocks) {
		f.wait(c.Blocks[b].List)
	}
	for n, v := range c.Values {
		for _, a := range v.Args {
			f.use(n, a)
		}
	}
	return f
}

// run asks rules and branches by turns: each may give the other one something to do.
func (f *folder) run() {
	for f.settle(); f.decide(); f.settle() {
	}
	f.stands.Settle(f.Code)
	edit.Close(f.Code)
}

func (f *folder) wait(values []int) {
	for _, n := range values {
		if !f.waits[n] {
			f.waits[n] = true
			f.next = append(f.next, n)
		}
	}
}

// use: n has a among Args.
func (f *folder) use(n, a int) {
	if l := f.users[a]; len(l) == 0 || l[len(l)-1] != n {
		f.users[a] = append(l, n)
	}
}

// settle follows rules until none fits.
func (f *folder) settle() {
	for len(f.next) > 0 {
		now := f.next
		f.next = nil
		for _, n := range now {
			f.waits[n] = false
			for f.fits(n) {
			}
		}
	}
}

// decide lets each BlockIf by an OpConst go on by the one way that is gone; whether there was any. OpPhis may be of one value then.
func (f *folder) decide() bool {
	exits := slices.Repeat([]int{edit.None}, len(f.Blocks))
	found := false
	for b, x := range f.Blocks {
		if x.Kind != api.BlockIf {
			continue
		}
		if c := f.Values[f.stands.Of(x.Args[0])]; c.Op == api.OpConst {
			exits[b] = 1 - int(c.N)
			found = true
		}
	}
	if found {
		for _, b := range edit.Decide(f.Code, exits) {
			f.wait(edit.Phis(f.Code, b))
		}
	}
	return found
}

// become makes an OpConst of n, where it stands.
func (f *folder) become(n int, x uint64) {
	f.Values[n] = api.Value{Op: api.OpConst, Kind: f.Values[n].Kind, N: int64(x)}
	f.wait(f.users[n])
}

// stand lets x stand for n from now on.
func (f *folder) stand(n, x int) {
	x = f.stands.Of(x)
	f.stands[n] = x
	f.wait(f.users[n])
	f.users[x] = append(f.users[x], f.users[n]...)
	f.users[n] = nil
}
