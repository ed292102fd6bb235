package compare

import (
	"bytes"
	"slices"
	"strconv"

	"gantry/api"
	"gantry/eval"
	"gantry/ssa"
)

// Formed tells what is wrong with what a pass has made of u, but for what it does: chapter 17's word; nothing, if it is right.
func Formed(u, made api.Unit) string {
	switch {
	case ssa.Check(made) != api.OK:
		return "ssa.Check tells " + strconv.Itoa(int(ssa.Check(made)))
	case len(u.Codes) != len(made.Codes):
		return "other Codes"
	case !bytes.Equal(u.Data, made.Data):
		return "other Data"
	}
	for i, c := range u.Codes {
		d := made.Codes[i]
		if !slices.Equal(c.Params, d.Params) || !slices.Equal(c.Results, d.Results) {
			return "other Params or Results of the Code " + strconv.Itoa(i)
		}
	}
	return ""
}

// Keeps tells whether a run of what a pass has made keeps one of what it has made it of, whatever fuel each has: chapter 17's word.
func Keeps(of, made api.Run) bool {
	if of.End == api.EndStuck && made.End != api.EndFuel {
		return len(of.Trace) <= len(made.Trace) && Beginning(of.Trace, made.Trace)
	}
	return Agree(of, made)
}

// enough is fuel for nearly all that ends.
const enough = 20000

// Kept tells what is wrong with what a unit does that a pass has made of u, with these fuels each and with enough; nothing, if it is right. What ends is to end still, though with no fuel that is told; what is stuck may go on.
func Kept(u, made api.Unit, args []uint64, fuels ...int) string {
	fuels = append([]int{enough}, fuels...)
	var ofs, mades []api.Run
	for _, fuel := range fuels {
		of, e := eval.Run(u, args, fuel)
		to, f := eval.Run(made, args, fuel)
		if e != api.OK || f != api.OK {
			return "no runs: " + strconv.Itoa(int(e)) + ", " + strconv.Itoa(int(f))
		}
		ofs, mades = append(ofs, of), append(mades, to)
	}
	if ofs[0].End != api.EndFuel && ofs[0].End != api.EndStuck && mades[0].End == api.EndFuel {
		fuels[0] = api.MaxFuel
		mades[0], _ = eval.Run(made, args, api.MaxFuel)
		if mades[0].End == api.EndFuel {
			return "it does not end"
		}
	}
	for i, of := range ofs {
		for j, to := range mades {
			if !Keeps(of, to) {
				return "runs with the fuels " + strconv.Itoa(fuels[i]) + ", " + strconv.Itoa(fuels[j]) + " do not agree"
			}
		}
	}
	return ""
}

// Count tells how many values there are of an operation; of all that are no holes, if it is OpNone.
func Count(c api.Code, op int) (many int) {
	for _, v := range c.Values {
		if v.Op != api.OpNone && (op == api.OpNone || v.Op == op) {
			many++
		}
	}
	return many
}

// Blocks tells how many blocks there are that are no holes.
func Blocks(c api.Code) (many int) {
	for _, b := range c.Blocks {
		if b.Kind != api.BlockNone {
			many++
		}
	}
	return many
}
