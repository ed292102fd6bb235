package fold_test

import (
	"fmt"
	"testing"

	"gantry/api"
	"gantry/compare"
	"gantry/fold"
	. "gantry/hand"
	"gantry/sample"
	"gantry/trial"
)

var pass = trial.Pass{Run: fold.Run, Left: left, Changed: changed}

// values tells how many values but OpConsts there are.
func values(c api.Code) int { return compare.Count(c, api.OpNone) - compare.Count(c, api.OpConst) }

// changed is P17.2.
func changed(was, made api.Code) string {
	if many, most := values(made), values(was); many > most {
		return fmt.Sprintf("%d values but OpConsts, and %d before", many, most)
	}
	return ""
}

func folded(t *testing.T, name string, u api.Unit) api.Unit {
	t.Helper()
	return pass.Made(t, name, u)
}

func keeps(t *testing.T, name string, u, made api.Unit, args []uint64, fuels ...int) {
	t.Helper()
	trial.Keeps(t, name, u, made, args, fuels...)
}

func hold(t *testing.T, name string, u api.Unit, args ...[]uint64) api.Unit {
	t.Helper()
	return pass.Hold(t, name, u, args...)
}

func goes(t *testing.T, name string, u api.Unit, args ...[]uint64) api.Unit {
	t.Helper()
	return pass.Goes(t, name, u, args...)
}

func stays(t *testing.T, name string, u api.Unit, args ...[]uint64) {
	t.Helper()
	pass.Stays(t, name, u, args...)
}

const (
	flag   = trial.Flags
	index  = trial.Index
	point  = trial.Point
	first  = trial.First
	second = trial.Second
	room   = trial.Room
)

func start(kind int) *Maker { return trial.Start(kind) }

func some(t *sample.Turns, kind, many int) [][]uint64 { return trial.Some(t, kind, many) }

func all(kind int) [][]uint64 { return trial.All(kind) }

func tell(m *Maker, n int) { trial.Tell(m, n) }

func back(u api.Unit) api.Unit { return trial.Back(u) }
