package run

import "gantry/api"

// maxSlot is the last slot in which a word may be handed over.
const maxSlot = 255

// imageMayBe tells whether there is a machine that takes img; its memory is not asked.
func imageMayBe(img api.Image) bool {
	if img.Target != api.TargetR && img.Target != api.TargetC {
		return false
	}
	if len(img.Code) > api.MaxCode || len(img.Data) > api.MaxCode || !inCode(img, img.Entry) {
		return false
	}
	for _, place := range img.Funcs {
		if !inCode(img, place) {
			return false
		}
	}
	return true
}

func inCode(img api.Image, place int) bool {
	return place >= 0 && place <= len(img.Code)
}

// callsMayBe tells whether calls of so many functions can be written down by it: none at all, or those of each one.
func callsMayBe(calls []api.Assign, funcs int) bool {
	if len(calls) == 0 {
		return true
	}
	if len(calls) != funcs {
		return false
	}
	for _, c := range calls {
		if !placesMayBe(c.Args) || !placesMayBe(c.Results) {
			return false
		}
	}
	return true
}

func placesMayBe(l []api.Place) bool {
	if len(l) > api.MaxParams*api.MaxWords {
		return false
	}
	for _, p := range l {
		last := api.ArgRegs - 1
		if p.Stack {
			last = maxSlot
		}
		if p.N < 0 || p.N > last {
			return false
		}
	}
	return true
}
