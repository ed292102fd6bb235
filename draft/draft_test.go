package draft

import (
	"reflect"
	"testing"

	"gantry/api"
	"gantry/check"
	"gantry/sample"
	"gantry/types"
)

// TestTypes: the table is one, with a number for each entry.
func TestTypes(t *testing.T) {
	if l := Types(); types.Check(l) != api.OK || len(l) != ManyTypes {
		t.Errorf("%d types: %d", len(l), types.Check(l))
	}
}

// TestOne: what is made checks, unless it is too great.
func TestOne(t *testing.T) {
	turns := sample.Turns(1)
	var told [api.ErrCheckReturn + 1]int
	for range 500 {
		p, args := one(&turns)
		told[check.Check(p)]++
		if len(args) != p.Funcs[0].Params {
			t.Errorf("%d: %+v", args, p)
		}
	}
	if told[api.OK] < 300 || told[api.OK]+told[api.ErrRawMany]+told[api.ErrRawDeep] != 500 {
		t.Errorf("%d", told)
	}
}

// TestAny: the same turns, the same program; and others.
func TestAny(t *testing.T) {
	a, b := sample.Turns(3), sample.Turns(3)
	p, args := Any(&a)
	q, other := Any(&b)
	if !reflect.DeepEqual(p, q) || !reflect.DeepEqual(args, other) || check.Check(p) != api.OK {
		t.Errorf("%+v, %+v", p, q)
	}
	if r, _ := Any(&a); reflect.DeepEqual(p, r) {
		t.Errorf("%+v again", r)
	}
}

// TestPrograms: those that are written out check.
func TestPrograms(t *testing.T) {
	for i, p := range []api.Program{Primes(), Divided(), Chain(), Down()} {
		if e := check.Check(p); e != api.OK {
			t.Errorf("%d: %d", i, e)
		}
	}
}

// TestCopied: a copy has no list in common with what it is of.
func TestCopied(t *testing.T) {
	p := Chain()
	q := Copied(p)
	if !reflect.DeepEqual(p, q) {
		t.Errorf("%+v, %+v", p, q)
	}
	q.Types[Pair].Fields[0], q.Funcs[0].Locals[0], q.Funcs[0].Results[0] = 9, 9, 9
	q.Funcs[0].Body[1].A[0].Args[0].Args[0].N = 9
	if !reflect.DeepEqual(p, Chain()) {
		t.Errorf("%+v", p)
	}
}
