// Package sample makes programs in SSA form that look like any others, and spoils them a little, for tests of the packages that take such.
package sample

import (
	"gantry/api"
	"gantry/word"
)

// Turns tells numbers that look like any others, the same for the same beginning.
type Turns uint64

// Next tells one from 0 to n - 1.
func (t *Turns) Next(n int) int {
	*t = *t*6364136223846793005 + 1442695040888963407
	return int(uint64(*t) >> 33 % uint64(n))
}

// Pick tells one of a list.
func Pick[T any](t *Turns, l []T) T { return l[t.Next(len(l))] }

// Shuffled tells the numbers 0 to n - 1 in some order.
func (t *Turns) Shuffled(n int) []int {
	l := make([]int, n)
	for i := range l {
		j := t.Next(i + 1)
		l[i] = l[j]
		l[j] = i
	}
	return l
}

// word tells a word of that kind: more often than not one of few bits, or of nearly all.
func (t *Turns) word(kind int) int64 {
	x := uint64(t.Next(24))
	switch t.Next(6) {
	case 0:
		x = -x
	case 1:
		x = uint64(t.Next(1<<31))<<33 ^ uint64(t.Next(1<<31))
	}
	return int64(word.Canon(kind, x))
}

// Unit tells a program that is right: from 1 to 3 Codes, the first with one KindI64 as its Results.
func Unit(t *Turns) api.Unit {
	u := api.Unit{Codes: make([]api.Code, 1+t.Next(3)), Data: make([]byte, t.Next(40))}
	for i := range u.Data {
		u.Data[i] = byte(t.Next(256))
	}
	for i := range u.Codes {
		c := &u.Codes[i]
		c.Params, c.Results = t.kinds(4), t.kinds(3)
		if i == 0 {
			c.Results = []int{api.KindI64}
		}
	}
	for i := range u.Codes {
		u.Codes[i] = code(t, u, i)
	}
	return u
}

// kinds tells fewer than n kinds of words.
func (t *Turns) kinds(n int) []int {
	l := make([]int, t.Next(n))
	for i := range l {
		l[i] = t.kind()
	}
	return l
}

func (t *Turns) kind() int { return api.KindBool + t.Next(api.KindPtr) }

// code fills the Code of that number, of which Params and Results are known, as of all others.
func code(t *Turns, u api.Unit, number int) api.Code {
	m := newMaker(t, u, number)
	for _, b := range m.order {
		m.fill(b)
	}
	m.close()
	return renumbered(t, m.c)
}
