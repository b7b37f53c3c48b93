package coerce_test

import (
	"slices"
	"strconv"
	"strings"
	"testing"

	"bezel/api"
	"bezel/coerce"
)

// of are the coercions of texts.
func of(texts ...string) []coerce.C {
	var l []coerce.C
	for _, s := range texts {
		l = append(l, c(s))
	}
	return l
}

// smallParts are what stands within the coercions of someCoercions.
func smallParts() []coerce.C {
	return of("{}", "{i1}", "{P1 n2}", "{F2}", "{!}", "{i2 b2 s2 y2 v2 [{}]2 F2}", "{({} {v1})}", "{<{i2} {}>}")
}

// nestedCoercions are valid coercions that wrap these parts: each as pairs, as lists and as procedures.
func nestedCoercions(parts []coerce.C) []coerce.C {
	var l []coerce.C
	add := func(x coerce.C) {
		if !slices.ContainsFunc(l, func(y coerce.C) bool { return equal(x, y) }) {
			l = append(l, x)
		}
	}
	for i, a := range parts {
		for label := range 3 {
			if label != 0 || i != 0 {
				add(coerce.C{Flat: [6]int{0, label}, Pair: 3, PairLabel: label, Pairs: []coerce.C{a}, Fun: label})
				l[len(l)-1].FunLabel = label % 2
				if label == 2 {
					l[len(l)-1].Fun = 3
				}
			}
		}
		if i != 0 {
			add(coerce.C{Fun: 2, Funs: []coerce.C{a}})
		}
		for j, b := range parts {
			if i+j != 0 {
				add(coerce.C{Pair: 2, Pairs: []coerce.C{a, b}})
				add(coerce.C{Flat: [6]int{i % 3, 0, 0, 0, j % 2}, Pair: 1, PairLabel: 1 + j%2, Fun: 2, Funs: []coerce.C{a, b}})
			}
		}
	}
	return l
}

// flatCoercions are valid coercions with no others in them.
func flatCoercions() []coerce.C {
	var l []coerce.C
	for _, flats := range []string{"", "i1", "n2", "b3 v1", "i2 b2 s2 y2 n2 v2"} {
		for _, pairs := range []string{"", " P1", " P2"} {
			for _, funs := range []string{"", " F1", " F2", " !"} {
				l = append(l, c("{"+flats+pairs+funs+"}"))
			}
		}
	}
	return l
}

// higherCoercions are some valid coercions of a Height of 3 and more.
func higherCoercions() []coerce.C {
	return of(
		"{[{[{i1}]2}]}", "{[{({i1} {[{b2}]1})}]2}", "{({i2} {({b1} {[{v1}]})})}", "{({[{i1}]} {i2 b2 s2 y2 v2 [{[{n2}]}]2 F2})}", "{({} {({} {({} {i1})})})}", "{({({({P1} {})} {})} {})}",
		"{<{<{i1} {b2}>} {<{b1} {i2}>}>}", "{<{<{<{i1} {}>} {}>} {}>}", "{<{} {<{} {<{} {i2}>}>}>}", "{<{[{i1}]1} {[{<{} {i2}>}]}>}", "{<{i1} {b2} {<{i2}>}>}", "{<{} {} {[{!}]1}>}", "{<{({i1} {})} {({} {[{b1}]2})}>}",
		"{[{<{i2} {i1}>}]1}", "{({<{i1} {}>} {<{} {b2}>}) <{({} {i1})} {P2}>}", "{i1 b1 [{i2}] <{i1} {i2} {i1 n2}>}", "{[{[{}]1}]2 !}", "{v99 ({i98} {}) F97}")
}

// someCoercions are some hundred small valid coercions.
func someCoercions() []coerce.C {
	return slices.Concat(flatCoercions(), nestedCoercions(smallParts()), higherCoercions())
}

// fewCoercions are less of them, of all forms.
func fewCoercions() []coerce.C {
	l := higherCoercions()
	for i, x := range append(flatCoercions(), nestedCoercions(smallParts())...) {
		if i%5 == 0 {
			l = append(l, x)
		}
	}
	return l
}

// value is what passes coercions: one of a flat tag, a pair, or a procedure.
type value struct {
	tag      int
	car, cdr *value
}

// values are of all tags, with improper and proper lists, and procedures in pairs.
func values() []value {
	pairOf := func(a, b value) value { return value{api.TagPair, &a, &b} }
	of := func(tag int) value { return value{tag: tag} }
	num, null, procedure := of(api.TagInt), of(api.TagNull), of(api.TagProc)
	l := []value{num, of(api.TagBool), of(api.TagStr), of(api.TagSym), null, of(api.TagVoid), procedure}
	return append(l, pairOf(num, num), pairOf(num, null), pairOf(of(api.TagBool), pairOf(num, null)), pairOf(num, pairOf(of(api.TagBool), of(api.TagVoid))), pairOf(pairOf(num, null), pairOf(procedure, null)), pairOf(null, procedure), pairOf(pairOf(num, pairOf(procedure, num)), pairOf(null, pairOf(num, pairOf(of(api.TagVoid), null)))))
}

// effect is all that can be seen of a value that has passed these coercions, one after the other, by one who looks into it so many times.
func effect(v value, passed []coerce.C, looks int) string {
	for _, x := range passed {
		if label := coerce.First(x, v.tag); label != 0 {
			return strconv.Itoa(label)
		}
	}
	if looks == 0 {
		return "?"
	}
	var wrapping []coerce.C
	for _, x := range passed {
		if coerce.Wraps(x, v.tag) {
			wrapping = append(wrapping, x)
		}
	}
	switch v.tag {
	case api.TagPair:
		return "(" + effect(*v.car, eachOf(wrapping, coerce.Car), looks-1) + " " + effect(*v.cdr, eachOf(wrapping, coerce.Cdr), looks-1) + ")"
	case api.TagProc:
		var calls []string
		for args := range 4 {
			calls = append(calls, effectOfCall(wrapping, args, looks-1))
		}
		return strings.Join(calls, ",")
	}
	return "-"
}

func eachOf(l []coerce.C, part func(coerce.C) coerce.C) []coerce.C {
	var parts []coerce.C
	for _, x := range l {
		parts = append(parts, part(x))
	}
	return parts
}

// effectOfCall is what can be seen of calls of a wrapped procedure with so many arguments: each argument passes the outermost coercion first, the result the innermost one.
func effectOfCall(wrapping []coerce.C, args, looks int) string {
	if slices.ContainsFunc(wrapping, func(x coerce.C) bool { return x.Fun != 2 || len(x.Funs) != args+1 }) {
		return "arity"
	}
	outermost := slices.Clone(wrapping)
	slices.Reverse(outermost)
	s := "<"
	for i := range args {
		for _, v := range values() {
			s += effect(v, eachOf(outermost, func(x coerce.C) coerce.C { return x.Funs[i] }), looks)
		}
	}
	for _, v := range values() {
		s += effect(v, eachOf(wrapping, func(x coerce.C) coerce.C { return x.Funs[args] }), looks)
	}
	return s + ">"
}

// The effects of the tests tell what they should.
func TestEffect(t *testing.T) {
	l := values()
	for i, x := range []struct {
		v      value
		passed []coerce.C
		want   string
	}{
		{l[0], nil, "-"}, {l[0], of("{i1}", "{i2}"), "1"}, {l[0], of("{b1}", "{i2}"), "2"}, {l[6], of("{F3}"), "3"}, {l[6], of("{!}"), "arity,arity,arity,arity"},
		{l[9], nil, "(- (- -))"}, {l[9], of("{({b1} {})}"), "(1 (- -))"}, {l[9], of("{[{i1}]2}"), "(- (1 -))"}, {l[8], of("{[{}]2}"), "(- -)"}, {l[7], of("{[{}]2}"), "(- 2)"}, {l[10], of("{[{i3}]2}"), "(3 (- 2))"}, {l[12], of("{[{}]2}"), "(- 2)"},
	} {
		if got := effect(x.v, x.passed, 3); got != x.want {
			t.Errorf("%d: %s", i, got)
		}
	}
	if got := effect(l[6], of("{<{i1} {b2}>}"), 1); got != "arity,<1"+strings.Repeat("?", len(l))+"2"+strings.Repeat("?", len(l)-2)+">,arity,arity" {
		t.Error(got)
	}
}

// P7.5: the composition of two coercions does to every value what both do one after the other, wherever one looks into it.
func TestComposeHasEffectOfBoth(t *testing.T) {
	few := fewCoercions()
	for _, a := range few {
		for _, b := range few {
			both := coerce.Compose(a, b)
			for i, v := range values() {
				want := effect(v, []coerce.C{a, b}, 2)
				if got := effect(v, []coerce.C{both}, 2); got != want {
					t.Fatalf("value %d, %s and %s: %s, not %s", i, show(a), show(b), got, want)
				}
			}
		}
	}
}

// P7.5: the same, where one looks further into values; and of three coercions.
func TestComposeHasEffectOfAll(t *testing.T) {
	higher := higherCoercions()
	for i, a := range higher {
		for j, b := range higher {
			x := higher[(i+j)%len(higher)]
			all := coerce.Compose(coerce.Compose(a, b), x)
			for k, v := range values() {
				want := effect(v, []coerce.C{a, b, x}, 4-v.tag/api.TagProc)
				if got := effect(v, []coerce.C{all}, 4-v.tag/api.TagProc); got != want {
					t.Fatalf("value %d, %s, %s and %s: %s, not %s", k, show(a), show(b), show(x), got, want)
				}
			}
		}
	}
}

// P7.5: composition is associative.
func TestComposeIsAssociative(t *testing.T) {
	few := fewCoercions()
	for _, a := range few {
		for _, b := range few {
			first := coerce.Compose(a, b)
			for _, x := range few {
				left, right := coerce.Compose(first, x), coerce.Compose(a, coerce.Compose(b, x))
				if !coerce.Same(left, right) || !equal(left, right) {
					t.Fatalf("%s, %s, %s: %s and %s", show(a), show(b), show(x), show(left), show(right))
				}
			}
		}
	}
}

// P7.4: the identity leaves every coercion as it is, on either side.
func TestIdentity(t *testing.T) {
	for _, x := range someCoercions() {
		if left, right := coerce.Compose(coerce.C{}, x), coerce.Compose(x, coerce.C{}); !equal(left, x) || !equal(right, x) || !owns(left, x) || !owns(right, x) {
			t.Fatalf("%s: %s and %s", show(x), show(left), show(right))
		}
	}
}

// P7.5: a coercion that is composed with itself grows neither in Height nor in Size, however often.
func TestComposeWithItself(t *testing.T) {
	all := someCoercions()
	for i, x := range someTypes() {
		if i%3 == 0 {
			to, from := coerce.To(x, 1+i%99), coerce.From(x, 1+i%98)
			all = append(all, to, from, coerce.Compose(to, from), coerce.Compose(from, to))
		}
	}
	few := fewCoercions()
	for i := range few {
		all = append(all, coerce.Compose(few[i], few[len(few)-1-i]))
	}
	for _, x := range all {
		again := x
		for range 4 {
			again = coerce.Compose(again, x)
			if coerce.Height(again) > coerce.Height(x) || coerce.Size(again) > coerce.Size(x) || !coerce.Right(again) {
				t.Fatalf("%s becomes %s", show(x), show(again))
			}
		}
		if twice := coerce.Compose(again, again); coerce.Height(twice) > coerce.Height(x) || coerce.Size(twice) > coerce.Size(x) {
			t.Fatalf("%s becomes %s", show(x), show(twice))
		}
	}
}

// someCoercions are valid ones, of all forms.
func TestSomeCoercions(t *testing.T) {
	for _, x := range someCoercions() {
		if !coerce.Right(x) {
			t.Errorf("%s is not valid", show(x))
		}
	}
	if n := len(someCoercions()); n < 200 || n > 400 {
		t.Error(n)
	}
}
