// Package fault is how an error deep inside is told by packages whose calls tell the first error there is.
package fault

import "gantry/api"

// fault is what is panicked with where something is wrong: a type of its own, so that no other panic is taken for one.
type fault struct{ e api.Errno }

// Must: what is asked first is told first, for nothing is asked behind a panic.
func Must(holds bool, e api.Errno) {
	if !holds {
		panic(fault{e})
	}
}

// Of tells the first error of what is asked. A panic that is not a fault says nothing of what was handed in, and is not kept back.
func Of(ask func()) (e api.Errno) {
	defer func() {
		x := recover()
		if x == nil {
			return
		}
		f, own := x.(fault)
		if !own {
			panic(x)
		}
		e = f.e
	}()
	ask()
	return api.OK
}
