package types

import (
	"slices"

	"bezel/api"
)

// This file orders types: which one is a subtype of which, and which one comes of two.

// mostSteps and mostAround end Sub and Join on types that are far from valid, as one that contains itself. Valid ones need at most one step for each two of their types, 300 * 300, and so does a valid one with what comes of joining it; that is at most 2 * 20 deep.
const (
	mostSteps  = 1 << 17
	mostAround = 1 << 10
)

// Sub reports whether a is a subtype of b.
func Sub(a, b api.Type) bool { return new(walk).sub(a, b, 0) }

// Join is a type that has all values of a and of b.
func Join(a, b api.Type) api.Type { return new(walk).join(a, b, 0) }

// walk goes through two types at once, and counts its steps.
type walk struct{ steps int }

// on takes a step to types within so many others, and reports whether it may.
func (w *walk) on(around int) bool {
	w.steps++
	return w.steps <= mostSteps && around <= mostAround
}

// sub is Sub of a and b within so many types.
func (w *walk) sub(a, b api.Type, around int) bool {
	if !w.on(around) {
		return false
	}
	if a.All || b.All {
		return b.All
	}
	part := func(x, y api.Type) bool { return w.sub(x, y, around+1) }
	return a.Flat&^b.Flat == 0 && subPairs(a, b, part) && subFuns(a, b, part)
}

// join is Join of a and b within so many types.
func (w *walk) join(a, b api.Type, around int) api.Type {
	if !w.on(around) {
		return api.Type{}
	}
	part := func(x, y api.Type) api.Type { return w.join(x, y, around+1) }
	return joinBy(a, b, part, func(x, y api.Type) bool { return w.same(x, y, around+1) })
}

// same is Same of a and b within so many types.
func (w *walk) same(a, b api.Type, around int) bool {
	return w.on(around) && sameBy(a, b, func(x, y api.Type) bool { return w.same(x, y, around+1) })
}

// subPairs reports whether b has all pairs of a, where sub tells which component types are subtypes.
func subPairs(a, b api.Type, sub func(x, y api.Type) bool) bool {
	if !hasPairs(a) || !hasPairs(b) {
		return !hasPairs(a)
	}
	if !sub(both(Car, a, b)) {
		return false
	}
	return areLists(a, b) || sub(both(Cdr, a, b))
}

// subFuns reports whether b has all procedures of a, where sub tells which component types are subtypes.
func subFuns(a, b api.Type, sub func(x, y api.Type) bool) bool {
	switch {
	case !hasFuns(a) || b.Fun == allFuns:
		return true
	case !hasFuns(b) || len(a.Funs) != len(b.Funs): // Fun 2 of a has none of the types that b has
		return false
	}
	result := len(a.Funs) - 1
	for i := range result {
		if !sub(b.Funs[i], a.Funs[i]) {
			return false
		}
	}
	return sub(a.Funs[result], b.Funs[result])
}

// joinBy joins a and b, where join says what comes of two component types, and same whether two are the same.
func joinBy(a, b api.Type, join func(x, y api.Type) api.Type, same func(x, y api.Type) bool) api.Type {
	if a.All || b.All {
		return All()
	}
	t := api.Type{Flat: a.Flat | b.Flat}
	t.Pair, t.Pairs = joinPairs(a, b, join)
	t.Fun, t.Funs = joinFuns(a, b, same)
	return t
}

// joinPairs is Pair and Pairs of the type that comes of a and b.
func joinPairs(a, b api.Type, join func(x, y api.Type) api.Type) (int, []api.Type) {
	switch {
	case !hasPairs(b):
		return a.Pair, slices.Clone(a.Pairs)
	case !hasPairs(a):
		return b.Pair, slices.Clone(b.Pairs)
	case areLists(a, b):
		return listsOf, []api.Type{join(both(Car, a, b))}
	}
	return pairsOf, []api.Type{join(both(Car, a, b)), join(both(Cdr, a, b))}
}

// joinFuns is Fun and Funs of the type that comes of a and b.
func joinFuns(a, b api.Type, same func(x, y api.Type) bool) (int, []api.Type) {
	switch {
	case !hasFuns(b):
		return a.Fun, slices.Clone(a.Funs)
	case !hasFuns(a):
		return b.Fun, slices.Clone(b.Funs)
	case a.Fun == b.Fun && slices.EqualFunc(a.Funs, b.Funs, same):
		return a.Fun, slices.Clone(a.Funs)
	}
	return allFuns, nil
}

// areLists reports whether the pairs of a and of b are lists: then their cdrs are what their cars are.
func areLists(a, b api.Type) bool { return a.Pair == listsOf && b.Pair == listsOf }

// both is the part (Car or Cdr) of a and of b, which have pairs.
func both(part func(api.Type) (api.Type, bool), a, b api.Type) (x, y api.Type) {
	x, _ = part(a)
	y, _ = part(b)
	return x, y
}
