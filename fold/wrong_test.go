package fold_test

import "testing"

// TestWrong: P17.1: ErrPassForm for each of ssa.Check's errors, alone and in a Code behind a right one.
func TestWrong(t *testing.T) { pass.Wrong(t) }

// TestSpoilt: P17.1: programs with a small change: ErrPassForm, or what is right.
func TestSpoilt(t *testing.T) {
	t.Parallel()
	pass.Spoilt(t, 35)
}
