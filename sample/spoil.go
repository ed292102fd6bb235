package sample

import (
	"slices"

	"gantry/api"
)

// edit changes a list of numbers a little: one of them, their order, how many.
func edit(t *Turns, l []int, below int) []int {
	at := t.Next(len(l) + 1)
	switch {
	case at == len(l):
		return append(l, t.Next(below+1)-1+t.Next(2))
	case t.Next(4) == 0:
		return slices.Delete(l, at, at+1)
	case t.Next(3) == 0:
		i := t.Next(len(l))
		l[i], l[at] = l[at], l[i]
	default:
		l[at] = t.Next(below+2) - 1
	}
	return l
}

// swap puts another value of the same kind where one is used.
func swap(t *Turns, c *api.Code, l []int) {
	if len(l) == 0 {
		return
	}
	at := t.Next(len(l))
	var may []int
	for n, v := range c.Values {
		if v.Op != api.OpNone && v.Kind == c.Values[l[at]].Kind {
			may = append(may, n)
		}
	}
	l[at] = Pick(t, may)
}

// move takes a value out of one List, and puts it into one.
func move(t *Turns, c *api.Code) {
	from, to := &c.Blocks[t.Next(len(c.Blocks))], &c.Blocks[t.Next(len(c.Blocks))]
	if len(from.List) == 0 || to.Kind == api.BlockNone {
		return
	}
	at := t.Next(len(from.List))
	n := from.List[at]
	from.List = slices.Delete(from.List, at, at+1)
	to.List = slices.Insert(to.List, t.Next(len(to.List)+1), n)
}

// turn lets a BlockIf, or a BlockPlain, go elsewhere, so that Preds fit again.
func turn(t *Turns, c *api.Code) {
	b, to := t.Next(len(c.Blocks)), t.Next(len(c.Blocks))
	if x := &c.Blocks[b]; len(x.Succs) > 0 && c.Blocks[to].Kind != api.BlockNone {
		at := t.Next(len(x.Succs))
		old := &c.Blocks[x.Succs[at]]
		if i := slices.Index(old.Preds, b); i >= 0 {
			old.Preds = slices.Delete(old.Preds, i, i+1)
		}
		x.Succs[at] = to
		c.Blocks[to].Preds = append(c.Blocks[to].Preds, b)
	}
}

// Spoil makes one small change that may or may not leave the unit right.
func Spoil(t *Turns, u *api.Unit) {
	c := &u.Codes[t.Next(len(u.Codes))]
	v, b := &c.Values[t.Next(len(c.Values))], &c.Blocks[t.Next(len(c.Blocks))]
	switch t.Next(24) {
	case 0:
		v.Op = t.Next(api.OpAddr+3) - 1
	case 1:
		v.Kind = t.Next(api.KindMem+3) - 1
	case 2:
		v.N += int64(t.Next(5)) - 2
	case 3:
		v.M += t.Next(3) - 1
	case 4:
		v.Args = edit(t, v.Args, len(c.Values))
	case 5:
		b.Kind = t.Next(api.BlockPanic+3) - 1
	case 6:
		b.N += int64(t.Next(5)) - 2
	case 7:
		b.Args = edit(t, b.Args, len(c.Values))
	case 8:
		b.Preds = edit(t, b.Preds, len(c.Blocks))
	case 9:
		b.Succs = edit(t, b.Succs, len(c.Blocks))
	case 10:
		b.List = edit(t, b.List, len(c.Values))
	case 11:
		c.Params = edit(t, c.Params, api.KindMem)
	case 12:
		c.Results = edit(t, c.Results, api.KindMem)
	case 13:
		u.Data = u.Data[:t.Next(len(u.Data)+1)]
	case 14, 15:
		move(t, c)
	case 16, 17:
		turn(t, c)
	case 18:
		i, j := t.Next(len(b.List)+1), t.Next(len(b.List)+1)
		if max(i, j) < len(b.List) {
			b.List[i], b.List[j] = b.List[j], b.List[i]
		}
	case 19:
		swap(t, c, b.Args)
	case 20, 21:
		swap(t, c, v.Args)
	default:
		for range 9 {
			if last := len(v.Args) - 1; last >= 0 && c.Values[v.Args[last]].Kind == api.KindMem {
				swap(t, c, v.Args[last:])
				break
			}
			v = &c.Values[t.Next(len(c.Values))]
		}
	}
}
