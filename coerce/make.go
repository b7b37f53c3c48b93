package coerce

import (
	"cmp"

	"bezel/api"
)

// This file makes coercions: from types, from two others, and as copies.

// mostMade ends the making of coercions that would take up more memory than the 2^31 bytes of an answer about which the document makes promises: a C has 2^7 bytes.
const mostMade = 1 << 24

// What Pair and Fun of a type with pairs and with procedures may be.
const (
	pairsOf = 1
	listsOf = 2
	funsOf  = 1
	allFuns = 2
)

// newWalk is the walk of a call that makes a coercion.
func newWalk() *walk { return &walk{mostMade} }

// To is what a value has to pass to be used as one of type t, or else label is blamed.
func To(t api.Type, label int) C { return newWalk().to(t, label, 0) }

// From is what a value of type t has to pass to be used in an untyped module, which is label.
func From(t api.Type, label int) C { return newWalk().from(t, label, 0) }

// Compose has the effect of c followed by d.
func Compose(c, d C) C { return newWalk().compose(c, d, 0) }

// own is c with slices of its own, since an answer belongs to the caller.
func own(c C) C { return newWalk().copied(c, 0) }

// copied is c, within so many others, with slices of its own.
func (w *walk) copied(c C, around int) C {
	if !w.on(around) {
		return C{}
	}
	c.Pairs, c.Funs = w.copies(c.Pairs, around), w.copies(c.Funs, around)
	return c
}

// copies are the coercions of l, which stand in one that is within so many others.
func (w *walk) copies(l []C, around int) []C {
	return each(l, func(part C) C { return w.copied(part, around+1) })
}

// to is To of t within so many others.
func (w *walk) to(t api.Type, label, around int) C {
	if t.All || !w.on(around) {
		return C{}
	}
	c := wrapping(t, label,
		func(part api.Type) C { return w.to(part, label, around+1) },
		func(arg api.Type) C { return w.from(arg, label, around+1) })
	for i := range c.Flat {
		if t.Flat>>i&1 == 0 {
			c.Flat[i] = label
		}
	}
	if !hasPairs(t) {
		c.Pair, c.PairLabel = blamed, label
	}
	if !hasFuns(t) {
		c.Fun, c.FunLabel = blamed, label
	}
	return c
}

// from is From of t within so many others. It blames nobody itself: the values that come out of a typed module are of type t.
func (w *walk) from(t api.Type, label, around int) C {
	if t.All || !w.on(around) {
		return C{}
	}
	return wrapping(t, 0,
		func(part api.Type) C { return w.from(part, label, around+1) },
		func(arg api.Type) C { return w.to(arg, label, around+1) })
}

// wrapping wraps the pairs and the procedures of t: parts are what goes the way of the value, whose coercions part makes, and arguments go the other way. Label is blamed for what is not a list.
func wrapping(t api.Type, label int, part, arg func(api.Type) C) C {
	var c C
	switch {
	case !hasPairs(t):
	case t.Pair == listsOf:
		items := each(t.Pairs, part)
		if label != 0 || !allPass(items) {
			c.Pair, c.PairLabel, c.Pairs = listed, label, items
		}
	default:
		if pairs := each(t.Pairs, part); !allPass(pairs) {
			c.Pair, c.Pairs = wrapped, pairs
		}
	}
	if hasFuns(t) && t.Fun == funsOf {
		result := len(t.Funs) - 1
		funs := append(each(t.Funs[:result], arg), part(t.Funs[result]))
		if !allPass(funs) {
			c.Fun, c.Funs = wrapped, funs
		}
	}
	return c
}

// compose is Compose of c and d, within so many others.
func (w *walk) compose(c, d C, around int) C {
	if !w.on(around) {
		return C{}
	}
	e := C{Flat: c.Flat}
	for i, label := range d.Flat {
		e.Flat[i] = cmp.Or(e.Flat[i], label)
	}
	e.Pair, e.PairLabel, e.Pairs = w.composePairs(c, d, around)
	e.Fun, e.FunLabel, e.Funs = w.composeFuns(c, d, around)
	return e
}

// composePairs is Pair, PairLabel and Pairs of c followed by d.
func (w *walk) composePairs(c, d C, around int) (pair, label int, pairs []C) {
	switch {
	case c.Pair == blamed || d.Pair == passed:
		return c.Pair, c.PairLabel, w.copies(c.Pairs, around)
	case d.Pair == blamed || c.Pair == passed:
		return d.Pair, d.PairLabel, w.copies(d.Pairs, around)
	}
	cars := w.compose(carOf(c), carOf(d), around+1)
	if c.Pair == listed && d.Pair == listed {
		return listed, cmp.Or(c.PairLabel, d.PairLabel), []C{cars}
	}
	return wrapped, 0, []C{cars, w.compose(cdrOf(c), cdrOf(d), around+1)}
}

// composeFuns is Fun, FunLabel and Funs of c followed by d.
func (w *walk) composeFuns(c, d C, around int) (fun, label int, funs []C) {
	switch {
	case c.Fun == blamed || d.Fun == passed:
		return c.Fun, c.FunLabel, w.copies(c.Funs, around)
	case d.Fun == blamed || c.Fun == passed:
		return d.Fun, d.FunLabel, w.copies(d.Funs, around)
	case c.Fun == closed || d.Fun == closed || len(c.Funs) != len(d.Funs):
		return closed, 0, nil
	}
	funs = make([]C, len(c.Funs))
	for i := range funs {
		first, second := d.Funs[i], c.Funs[i] // an argument comes from outside: it passes the outer coercion first
		if i == len(funs)-1 {
			first, second = second, first
		}
		funs[i] = w.compose(first, second, around+1)
	}
	return wrapped, 0, funs
}

// each is what f makes of every element of l, in a slice of its own.
func each[T any](l []T, f func(T) C) []C {
	if len(l) == 0 {
		return nil
	}
	answer := make([]C, len(l))
	for i, x := range l {
		answer[i] = f(x)
	}
	return answer
}

// hasPairs reports whether t has pairs, whose types can be counted on.
func hasPairs(t api.Type) bool {
	return t.Pair == pairsOf && len(t.Pairs) == 2 || t.Pair == listsOf && len(t.Pairs) == 1
}

// hasFuns reports whether t has procedures, whose types can be counted on.
func hasFuns(t api.Type) bool { return t.Fun == funsOf && len(t.Funs) > 0 || t.Fun == allFuns }
