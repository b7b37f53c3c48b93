package narrow

import (
	"cmp"
	"slices"

	"bezel/api"
)

// This file combines facts.

// Fact states that the tag of a variable is one of Tags.
type Fact struct{ Var, Tags int }

// Facts state all of their elements; with Never, that the point is never reached.
type Facts struct {
	Never bool
	L     []Fact
}

// And states what a and b state.
func And(a, b Facts) Facts {
	if a.Never || b.Never {
		return Facts{Never: true}
	}
	return Facts{L: normal(a.L, b.L)}
}

// Or states what holds where a or b does. What is never reached adds no case.
func Or(a, b Facts) Facts {
	switch {
	case a.Never:
		return And(b, Facts{})
	case b.Never:
		return And(a, Facts{})
	}
	return Facts{L: either(normal(a.L), normal(b.L))}
}

// either are the facts that hold where those of a or those of b do; all are in normal form. Of a variable of which only one of the two states something, nothing is known.
func either(a, b []Fact) []Fact {
	var l []Fact
	for len(a) > 0 && len(b) > 0 {
		x, y := a[0], b[0]
		switch {
		case x.Var < y.Var:
			a = a[1:]
		case x.Var > y.Var:
			b = b[1:]
		default:
			l = append(l, Fact{x.Var, x.Tags | y.Tags})
			a, b = a[1:], b[1:]
		}
	}
	return slices.DeleteFunc(l, isEmpty)
}

// normal are all facts of these rows in normal form.
func normal(rows ...[]Fact) []Fact {
	sorted := slices.Concat(rows...)
	slices.SortFunc(sorted, func(a, b Fact) int { return cmp.Compare(a.Var, b.Var) })
	var l []Fact
	for _, f := range sorted {
		f.Tags &= api.TagAll
		if n := len(l); n > 0 && l[n-1].Var == f.Var {
			l[n-1].Tags &= f.Tags
		} else {
			l = append(l, f)
		}
	}
	return slices.DeleteFunc(l, isEmpty)
}

// isEmpty reports whether f states nothing, because the variable may have any tag.
func isEmpty(f Fact) bool { return f == Fact{f.Var, api.TagAll} }

// stating are the facts in normal form that state just that the tag of a variable is one of tags.
func stating(v, tags int) Facts { return Facts{L: normal([]Fact{{v, tags}})} }

// ownFacts is f with a slice of its own, since an answer belongs to the caller.
func ownFacts(f Facts) Facts { return Facts{f.Never, slices.Clone(f.L)} }
