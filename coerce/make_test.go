package coerce_test

import (
	"math"
	"slices"
	"testing"

	"bezel/api"
	"bezel/coerce"
)

var (
	nothing  = api.Type{}
	anything = api.Type{All: true}
	allFuns  = api.Type{Fun: 2}
)

func flat(tags int) api.Type { return api.Type{Flat: tags} }

func pair(a, b api.Type) api.Type { return api.Type{Pair: 1, Pairs: []api.Type{a, b}} }

func list1(t api.Type) api.Type { return api.Type{Pair: 2, Pairs: []api.Type{t}} }

func list(t api.Type) api.Type {
	return api.Type{Flat: api.TagNull, Pair: 2, Pairs: []api.Type{t}}
}

// fun has the result last.
func fun(l ...api.Type) api.Type { return api.Type{Fun: 1, Funs: l} }

// union is a type of flat tags, of the pairs of one type, and of the procedures of another one.
func union(tags int, pairs, funs api.Type) api.Type {
	return api.Type{Flat: tags, Pair: pairs.Pair, Pairs: pairs.Pairs, Fun: funs.Fun, Funs: funs.Funs}
}

// P7.3: To and From of types of all forms.
func TestToAndFrom(t *testing.T) {
	num := flat(api.TagInt)
	const onlyInt = "{b5 s5 y5 n5 v5 P5 F5}"
	const noValue = "{i5 b5 s5 y5 n5 v5 P5 F5}"
	const noFlat = "i5 b5 s5 y5 n5 v5 "
	const noNull = "i5 b5 s5 y5 v5 "
	for i, x := range []struct {
		t        api.Type
		to, from string
	}{
		{anything, "{}", "{}"}, {nothing, noValue, "{}"}, {num, onlyInt, "{}"},
		{flat(api.TagBool), "{i5 s5 y5 n5 v5 P5 F5}", "{}"}, {flat(api.TagStr), "{i5 b5 y5 n5 v5 P5 F5}", "{}"}, {flat(api.TagSym), "{i5 b5 s5 n5 v5 P5 F5}", "{}"}, {flat(api.TagNull), "{i5 b5 s5 y5 v5 P5 F5}", "{}"}, {flat(api.TagVoid), "{i5 b5 s5 y5 n5 P5 F5}", "{}"}, {flat(1 | 4 | 32), "{b5 y5 n5 P5 F5}", "{}"}, {flat(63), "{P5 F5}", "{}"},
		{pair(anything, anything), "{" + noFlat + "F5}", "{}"}, {pair(num, anything), "{" + noFlat + "(" + onlyInt + " {}) F5}", "{}"}, {pair(anything, num), "{" + noFlat + "({} " + onlyInt + ") F5}", "{}"}, {pair(allFuns, nothing), "{" + noFlat + "({" + noFlat + "P5} " + noValue + ") F5}", "{}"},
		{list(anything), "{" + noNull + "[{}]5 F5}", "{}"}, {list1(anything), "{" + noFlat + "[{}]5 F5}", "{}"}, {list(num), "{" + noNull + "[" + onlyInt + "]5 F5}", "{}"}, {list1(num), "{" + noFlat + "[" + onlyInt + "]5 F5}", "{}"},
		{allFuns, "{" + noFlat + "P5}", "{}"}, {fun(anything), "{" + noFlat + "P5}", "{}"}, {fun(anything, anything), "{" + noFlat + "P5}", "{}"}, {fun(num), "{" + noFlat + "P5 <" + onlyInt + ">}", "{}"},
		{fun(num, num), "{" + noFlat + "P5 <{} " + onlyInt + ">}", "{<" + onlyInt + " {}>}"}, {fun(num, anything), "{" + noFlat + "P5}", "{<" + onlyInt + " {}>}"}, {fun(anything, num), "{" + noFlat + "P5 <{} " + onlyInt + ">}", "{}"}, {fun(num, anything, nothing, anything), "{" + noFlat + "P5}", "{<" + onlyInt + " {} " + noValue + " {}>}"},
		{fun(nothing, nothing, nothing, nothing, nothing, nothing, nothing, nothing, num), "{" + noFlat + "P5 <{} {} {} {} {} {} {} {} " + onlyInt + ">}", "{<" + noValue + " " + noValue + " " + noValue + " " + noValue + " " + noValue + " " + noValue + " " + noValue + " " + noValue + " {}>}"},
		// arguments of arguments go the way of the whole again
		{fun(fun(num, anything), anything), "{" + noFlat + "P5 <{<" + onlyInt + " {}>} {}>}", "{<{" + noFlat + "P5} {}>}"}, {fun(fun(anything, num), anything), "{" + noFlat + "P5}", "{<{" + noFlat + "P5 <{} " + onlyInt + ">} {}>}"}, {fun(anything, fun(num, anything)), "{" + noFlat + "P5 <{} {" + noFlat + "P5}>}", "{<{} {<" + onlyInt + " {}>}>}"},
		{fun(fun(fun(num, num), anything), anything), "{" + noFlat + "P5 <{<{" + noFlat + "P5 <{} " + onlyInt + ">} {}>} {}>}", "{<{" + noFlat + "P5 <{<" + onlyInt + " {}>} {}>} {}>}"},
		// procedures in pairs and in lists
		{pair(fun(num, anything), anything), "{" + noFlat + "({" + noFlat + "P5} {}) F5}", "{({<" + onlyInt + " {}>} {})}"}, {pair(anything, fun(num, anything)), "{" + noFlat + "({} {" + noFlat + "P5}) F5}", "{({} {<" + onlyInt + " {}>})}"}, {list(fun(num, num)), "{" + noNull + "[{" + noFlat + "P5 <{} " + onlyInt + ">}]5 F5}", "{[{<" + onlyInt + " {}>}]}"}, {list1(fun(num, num)), "{" + noFlat + "[{" + noFlat + "P5 <{} " + onlyInt + ">}]5 F5}", "{[{<" + onlyInt + " {}>}]}"}, {list(list(fun(num, anything))), "{" + noNull + "[{" + noNull + "[{" + noFlat + "P5}]5 F5}]5 F5}", "{[{[{<" + onlyInt + " {}>}]}]}"},
		// an argument that is a list
		{fun(list(num), list(num)), "{" + noFlat + "P5 <{} {" + noNull + "[" + onlyInt + "]5 F5}>}", "{<{" + noNull + "[" + onlyInt + "]5 F5} {}>}"}, {fun(list(anything), anything), "{" + noFlat + "P5}", "{<{" + noNull + "[{}]5 F5} {}>}"}, {fun(list(fun(num, anything)), anything), "{" + noFlat + "P5 <{[{<" + onlyInt + " {}>}]} {}>}", "{<{" + noNull + "[{" + noFlat + "P5}]5 F5} {}>}"},
		// several of these
		{union(3, pair(num, num), allFuns), "{s5 y5 n5 v5 (" + onlyInt + " " + onlyInt + ")}", "{}"}, {union(63, pair(anything, anything), allFuns), "{}", "{}"}, {union(62, pair(anything, anything), allFuns), "{i5}", "{}"}, {union(63, list1(anything), allFuns), "{[{}]5}", "{}"}, {union(63, nothing, allFuns), "{P5}", "{}"}, {union(63, pair(anything, anything), nothing), "{F5}", "{}"}, {union(63, pair(anything, anything), fun(num, num)), "{<{} " + onlyInt + ">}", "{<" + onlyInt + " {}>}"}, {union(1, pair(fun(num, num), num), fun(num, anything)), "{b5 s5 y5 n5 v5 ({" + noFlat + "P5 <{} " + onlyInt + ">} " + onlyInt + ")}", "{({<" + onlyInt + " {}>} {}) <" + onlyInt + " {}>}"},
	} {
		if got := show(coerce.To(x.t, 5)); got != x.to {
			t.Errorf("%d: To %s, not %s", i, got, x.to)
		}
		if got := show(coerce.From(x.t, 5)); got != x.from {
			t.Errorf("%d: From %s, not %s", i, got, x.from)
		}
	}
}

// The chapter's example.
func TestExample(t *testing.T) {
	x := coerce.To(flat(api.TagInt), 5)
	for tag := 1; tag < 256; tag *= 2 {
		want := 5
		if tag == api.TagInt {
			want = 0
		}
		if got := coerce.First(x, tag); got != want {
			t.Errorf("%d: %d", tag, got)
		}
	}
}

// toBy and fromBy are To and From, as the chapter's words have them.
func toBy(t api.Type, label int) coerce.C {
	x := coerce.C{}
	if t.All {
		return x
	}
	for i, tag := range []int{api.TagInt, api.TagBool, api.TagStr, api.TagSym, api.TagNull, api.TagVoid} {
		if t.Flat&tag == 0 {
			x.Flat[i] = label
		}
	}
	switch t.Pair {
	case 0:
		x.Pair, x.PairLabel = 1, label
	case 1:
		if car, cdr := toBy(t.Pairs[0], label), toBy(t.Pairs[1], label); !equal(car, coerce.C{}) || !equal(cdr, coerce.C{}) {
			x.Pair, x.Pairs = 2, []coerce.C{car, cdr}
		}
	case 2:
		x.Pair, x.PairLabel, x.Pairs = 3, label, []coerce.C{toBy(t.Pairs[0], label)}
	}
	if t.Fun == 0 {
		x.Fun, x.FunLabel = 1, label
	}
	if t.Fun == 1 {
		x.Fun, x.Funs = funsBy(t, label, fromBy, toBy)
	}
	return x
}

func fromBy(t api.Type, label int) coerce.C {
	x := coerce.C{}
	if t.Pair == 1 {
		if car, cdr := fromBy(t.Pairs[0], label), fromBy(t.Pairs[1], label); !equal(car, coerce.C{}) || !equal(cdr, coerce.C{}) {
			x.Pair, x.Pairs = 2, []coerce.C{car, cdr}
		}
	}
	if t.Pair == 2 {
		if item := fromBy(t.Pairs[0], label); !equal(item, coerce.C{}) {
			x.Pair, x.Pairs = 3, []coerce.C{item}
		}
	}
	if t.Fun == 1 {
		x.Fun, x.Funs = funsBy(t, label, toBy, fromBy)
	}
	return x
}

func funsBy(t api.Type, label int, arg, result func(api.Type, int) coerce.C) (int, []coerce.C) {
	var l []coerce.C
	for _, a := range t.Funs[:len(t.Funs)-1] {
		l = append(l, arg(a, label))
	}
	l = append(l, result(t.Funs[len(t.Funs)-1], label))
	if showRow(l) == showRow(repeated(coerce.C{}, len(l))) {
		return 0, nil
	}
	return 2, l
}

// grown are types whose components are in l, and l itself.
func grown(l []api.Type) []api.Type {
	answer := slices.Clone(l)
	for _, a := range l {
		answer = append(answer, list(a), list1(a), fun(a), union(1, list1(a), allFuns))
		for _, b := range l {
			answer = append(answer, pair(a, b), fun(a, b), fun(b, nothing, a), union(63, pair(a, b), fun(b, a)))
		}
	}
	return answer
}

// someTypes are some thousand types of up to three levels.
func someTypes() []api.Type {
	first := grown([]api.Type{anything, flat(1), fun(flat(2), flat(1))})
	var second []api.Type
	for i := 0; i < len(first); i += 2 {
		second = append(second, first[i])
	}
	return append(first, grown(second)...)
}

// P7.3: To and From of many types and of all labels; the answers are valid.
func TestToAndFromOfMany(t *testing.T) {
	l := append(someTypes(), nothing, allFuns)
	for tags := range 64 {
		l = append(l, flat(tags), union(tags, list1(anything), fun(flat(1), flat(1))))
	}
	for i, x := range l {
		label := 1 + i%99
		to, from := coerce.To(x, label), coerce.From(x, label)
		if !equal(to, toBy(x, label)) || !equal(from, fromBy(x, label)) {
			t.Fatalf("%+v: %s and %s, not %s and %s", x, show(to), show(from), show(toBy(x, label)), show(fromBy(x, label)))
		}
		if !coerce.Right(to) || !coerce.Right(from) || !owns(to) || !owns(from) {
			t.Fatalf("%+v: %s or %s is not valid", x, show(to), show(from))
		}
	}
	for label := 1; label < 100; label++ {
		x := union(9, list1(fun(flat(1), list(flat(2)))), nothing)
		if !equal(coerce.To(x, label), toBy(x, label)) || !equal(coerce.From(x, label), fromBy(x, label)) {
			t.Errorf("label %d", label)
		}
	}
}

// P7.3: types as deep and as great as valid ones may be.
func TestToAndFromOfGreatTypes(t *testing.T) {
	for place, wrap := range map[string]func(api.Type) api.Type{
		"car":      func(x api.Type) api.Type { return pair(x, anything) },
		"cdr":      func(x api.Type) api.Type { return pair(flat(3), x) },
		"list":     list,
		"argument": func(x api.Type) api.Type { return fun(x, flat(1)) },
		"result":   func(x api.Type) api.Type { return fun(flat(2), x) },
		"wide":     func(x api.Type) api.Type { return union(7, pair(x, list(flat(1))), fun(flat(1), x)) },
	} {
		x, levels := list(flat(1)), 2
		for levels < 20 && (place != "wide" || levels < 7) {
			x, levels = wrap(x), levels+1
		}
		to, from := coerce.To(x, 7), coerce.From(x, 7)
		if !equal(to, toBy(x, 7)) || !equal(from, fromBy(x, 7)) || coerce.Height(to) > levels || coerce.Height(from) > levels || !coerce.Right(to) || !coerce.Right(from) {
			t.Errorf("%s: %s, %s", place, show(to), show(from))
		}
	}
}

// typesInItself are types that contain themselves.
func typesInItself() []api.Type {
	var l []api.Type
	for _, x := range []struct{ pair, pairs, fun, funs int }{{1, 2, 0, 0}, {2, 1, 0, 0}, {0, 0, 1, 1}, {0, 0, 1, 9}, {1, 2, 1, 3}, {9, 4, 7, 20}} {
		t := api.Type{Flat: 1, Pair: x.pair, Pairs: make([]api.Type, x.pairs), Fun: x.fun, Funs: make([]api.Type, x.funs)}
		for _, row := range [][]api.Type{t.Pairs, t.Funs} {
			for i := range row {
				row[i] = t
			}
		}
		l = append(l, t)
	}
	return l
}

// P0: To and From end and do not panic, whatever they are given.
func TestOddTypes(t *testing.T) {
	for _, x := range typesInItself() {
		coerce.To(x, 1)
		coerce.From(x, 1)
	}
	var l []api.Type
	for kind := -1; kind <= 3; kind++ {
		for n := range 4 {
			row := slices.Repeat([]api.Type{flat(1)}, n)
			l = append(l, api.Type{Pair: kind, Pairs: row}, api.Type{Fun: kind, Funs: row}, api.Type{All: true, Flat: -1, Pair: kind, Pairs: row, Fun: kind, Funs: row}, api.Type{Flat: math.MinInt, Fun: kind, Funs: slices.Repeat([]api.Type{flat(64)}, n*10)})
		}
	}
	for _, x := range l {
		for _, label := range []int{math.MinInt, -1, 0, 1, 100, math.MaxInt} {
			coerce.To(x, label)
			coerce.From(x, label)
		}
	}
}

// P7.4: what comes of two coercions, by example.
func TestCompose(t *testing.T) {
	for _, x := range []struct{ c, d, want string }{
		{"{}", "{}", "{}"},
		// flat tags
		{"{i1}", "{}", "{i1}"}, {"{}", "{i1}", "{i1}"}, {"{i1}", "{i2}", "{i1}"}, {"{i1 s3 n5}", "{i9 b8 s7 y6 n4 v3}", "{i1 b8 s3 y6 n5 v3}"}, {"{b8 y6 v3}", "{i1 s2 n4}", "{i1 b8 s2 y6 n4 v3}"}, {"{v99}", "{v1}", "{v99}"},
		// pairs that pass, or are blamed
		{"{P1}", "{}", "{P1}"}, {"{}", "{P1}", "{P1}"}, {"{P1}", "{P2}", "{P1}"}, {"{P1}", "{({i2} {})}", "{P1}"}, {"{P1}", "{[{i2}]3}", "{P1}"}, {"{({i2} {})}", "{P1}", "{P1}"}, {"{[{i2}]3}", "{P1}", "{P1}"},
		{"{({i2} {})}", "{}", "{({i2} {})}"}, {"{}", "{({i2} {})}", "{({i2} {})}"}, {"{[{i2}]3}", "{}", "{[{i2}]3}"}, {"{}", "{[{i2}]3}", "{[{i2}]3}"}, {"{[{i2}]}", "{}", "{[{i2}]}"}, {"{}", "{[{i2}]}", "{[{i2}]}"}, {"{}", "{[{}]3}", "{[{}]3}"}, {"{[{}]3}", "{}", "{[{}]3}"},
		// pairs that both wrap
		{"{({i1} {})}", "{({} {i2})}", "{({i1} {i2})}"}, {"{({i1} {b1})}", "{({i2} {s2})}", "{({i1} {b1 s2})}"}, {"{({i1} {b1})}", "{({P2} {b2})}", "{({i1 P2} {b1})}"},
		{"{({({i1} {})} {})}", "{({({i2} {b2})} {[{}]2})}", "{({({i1} {b2})} {[{}]2})}"},
		// lists that both wrap: the label of the first one that has one
		{"{[{i1}]}", "{[{b2}]}", "{[{i1 b2}]}"}, {"{[{i1}]3}", "{[{b2}]}", "{[{i1 b2}]3}"}, {"{[{i1}]}", "{[{b2}]4}", "{[{i1 b2}]4}"}, {"{[{i1}]3}", "{[{i2}]4}", "{[{i1}]3}"}, {"{[{}]3}", "{[{}]4}", "{[{}]3}"}, {"{[{}]3}", "{[{b2}]}", "{[{b2}]3}"}, {"{[{[{i1}]}]}", "{[{[{i2}]4}]}", "{[{[{i1}]4}]}"},
		// pairs against lists: the cdr of a list is a list
		{"{({i1} {b1})}", "{[{s2}]}", "{({i1 s2} {b1 [{s2}]})}"}, {"{({i1} {b1})}", "{[{s2}]4}", "{({i1 s2} {i4 b1 s4 y4 v4 [{s2}]4 F4})}"}, {"{({i1} {n1})}", "{[{}]4}", "{({i1} {i4 b4 s4 y4 n1 v4 [{}]4 F4})}"},
		{"{[{s2}]}", "{({i1} {b1})}", "{({i1 s2} {b1 [{s2}]})}"}, {"{[{s2}]4}", "{({i1} {b1})}", "{({i1 s2} {i4 b4 s4 y4 v4 [{s2}]4 F4})}"}, {"{[{}]4}", "{({i1} {n1})}", "{({i1} {i4 b4 s4 y4 n1 v4 [{}]4 F4})}"}, {"{[{s2}]4}", "{({s1} {P1})}", "{({s2} {i4 b4 s4 y4 v4 P1 F4})}"},
		{"{[{s2}]}", "{({} {({b1} {})})}", "{({s2} {({b1 s2} {[{s2}]})})}"}, {"{[{s2}]4}", "{({} {<{} {b1}>})}", "{({s2} {i4 b4 s4 y4 v4 [{s2}]4 F4})}"}, {"{({} {<{} {b1}>})}", "{[{s2}]4}", "{({s2} {i4 b4 s4 y4 v4 [{s2}]4 F4})}"}, {"{({} {F6})}", "{[{s2}]4}", "{({s2} {i4 b4 s4 y4 v4 [{s2}]4 F6})}"}, {"{({} {!})}", "{[{s2}]4}", "{({s2} {i4 b4 s4 y4 v4 [{s2}]4 F4})}"}, {"{({} {!})}", "{[{s2}]}", "{({s2} {[{s2}] !})}"},
		{"{({i1} {[{i1}]9})}", "{[{b2}]8}", "{({i1 b2} {i8 b8 s8 y8 v8 [{i1 b2}]9 F8})}"},
		// procedures that pass, or are blamed
		{"{F1}", "{}", "{F1}"}, {"{}", "{F1}", "{F1}"}, {"{F1}", "{F2}", "{F1}"}, {"{F1}", "{<{i2}>}", "{F1}"}, {"{F1}", "{!}", "{F1}"}, {"{<{i2}>}", "{F1}", "{F1}"}, {"{!}", "{F1}", "{F1}"}, {"{!}", "{}", "{!}"}, {"{}", "{!}", "{!}"}, {"{!}", "{!}", "{!}"}, {"{<{i2}>}", "{}", "{<{i2}>}"}, {"{}", "{<{i2}>}", "{<{i2}>}"}, {"{<{} {} {i2}>}", "{}", "{<{} {} {i2}>}"}, {"{}", "{<{} {} {i2}>}", "{<{} {} {i2}>}"},
		// procedures that cannot be called any more
		{"{!}", "{<{i2}>}", "{!}"}, {"{<{i2}>}", "{!}", "{!}"}, {"{<{i2}>}", "{<{} {i2}>}", "{!}"}, {"{<{} {i2}>}", "{<{i2}>}", "{!}"}, {"{<{i1} {} {}>}", "{<{i1} {} {} {}>}", "{!}"},
		// procedures that both wrap: d is the outer one, which arguments pass first and results last
		{"{<{i1}>}", "{<{i2}>}", "{<{i1}>}"}, {"{<{i1}>}", "{<{b2}>}", "{<{i1 b2}>}"}, {"{<{i1} {i1}>}", "{<{i2} {i2}>}", "{<{i2} {i1}>}"}, {"{<{i1} {}>}", "{<{} {i2}>}", "{<{i1} {i2}>}"}, {"{<{i1} {i1} {i1} {i1}>}", "{<{i2} {b2} {} {i2}>}", "{<{i2} {i1 b2} {i1} {i1}>}"}, {"{<{P1} {P1}>}", "{<{({i1} {})} {({i1} {})}>}", "{<{P1} {P1}>}"},
		{"{<{<{i1} {i1}>} {<{i1} {i1}>}>}", "{<{<{i2} {i2}>} {<{i2} {i2}>}>}", "{<{<{i1} {i2}>} {<{i2} {i1}>}>}"}, {"{<{<{i1}>} {}>}", "{<{<{} {i2}>} {}>}", "{<{!} {}>}"}, {"{<{({i1} {i1})} {[{i1}]1}>}", "{<{({i2} {})} {[{i2}]2}>}", "{<{({i2} {i1})} {[{i1}]1}>}"}, {"{<{[{i1}]1} {[{i1}]1}>}", "{<{[{i2}]2} {[{i2}]2}>}", "{<{[{i2}]2} {[{i1}]1}>}"},
		{"{<{} {} {} {} {} {} {} {i1} {}>}", "{<{i2} {} {} {} {} {} {} {i2} {i2}>}", "{<{i2} {} {} {} {} {} {} {i2} {i2}>}"},
		// all at once
		{"{i1 ({i1} {}) <{i1} {i1}>}", "{b2 [{b2}]2 <{i2} {b2}>}", "{i1 b2 ({i1 b2} {i2 b2 s2 y2 v2 [{b2}]2 F2}) <{i2} {i1 b2}>}"}, {"{P1 !}", "{[{b2}]2 <{i2} {b2}>}", "{P1 !}"}, {"{P1 F1}", "{P2 F2}", "{P1 F1}"},
	} {
		a, b := c(x.c), c(x.d)
		if got := show(coerce.Compose(a, b)); got != x.want {
			t.Errorf("%s and %s: %s, not %s", x.c, x.d, got, x.want)
		}
		if !coerce.Right(a) || !coerce.Right(b) {
			t.Errorf("%s or %s is not valid", x.c, x.d)
		}
	}
}

// composeBy is Compose, as the chapter's words have it.
func composeBy(a, b coerce.C) coerce.C {
	x := coerce.C{}
	for i := range 6 {
		x.Flat[i] = a.Flat[i]
		if x.Flat[i] == 0 {
			x.Flat[i] = b.Flat[i]
		}
	}
	if a.Pair == 1 || b.Pair == 0 {
		x.Pair, x.PairLabel, x.Pairs = a.Pair, a.PairLabel, a.Pairs
	} else if b.Pair == 1 || a.Pair == 0 {
		x.Pair, x.PairLabel, x.Pairs = b.Pair, b.PairLabel, b.Pairs
	} else if a.Pair == 3 && b.Pair == 3 {
		x.Pair, x.PairLabel, x.Pairs = 3, a.PairLabel, []coerce.C{composeBy(a.Pairs[0], b.Pairs[0])}
		if x.PairLabel == 0 {
			x.PairLabel = b.PairLabel
		}
	} else {
		x.Pair, x.Pairs = 2, []coerce.C{composeBy(coerce.Car(a), coerce.Car(b)), composeBy(coerce.Cdr(a), coerce.Cdr(b))}
	}
	if a.Fun == 1 || b.Fun == 0 {
		x.Fun, x.FunLabel, x.Funs = a.Fun, a.FunLabel, a.Funs
	} else if b.Fun == 1 || a.Fun == 0 {
		x.Fun, x.FunLabel, x.Funs = b.Fun, b.FunLabel, b.Funs
	} else if a.Fun == 3 || b.Fun == 3 || len(a.Funs) != len(b.Funs) {
		x.Fun = 3
	} else {
		x.Fun = 2
		last := len(a.Funs) - 1
		for i := range last {
			x.Funs = append(x.Funs, composeBy(b.Funs[i], a.Funs[i]))
		}
		x.Funs = append(x.Funs, composeBy(a.Funs[last], b.Funs[last]))
	}
	return x
}

// P7.4: all pairs of some coercions; what comes of them is the caller's own, and the arguments are left as they were.
func TestComposeOfAll(t *testing.T) {
	all := someCoercions()
	before := cloneRow(all)
	for _, a := range all {
		for _, b := range all {
			got := coerce.Compose(a, b)
			if !equal(got, composeBy(a, b)) {
				t.Fatalf("%s and %s: %s, not %s", show(a), show(b), show(got), show(composeBy(a, b)))
			}
			if !coerce.Right(got) || !owns(got, a, b) {
				t.Fatalf("%s and %s: %s is not valid, or shares memory", show(a), show(b), show(got))
			}
		}
	}
	if !slices.EqualFunc(all, before, equal) {
		t.Error("an argument has been changed")
	}
}

// P7.4, P7.1: what is composed of valid coercions may be too high; it is valid otherwise, and goes on being composed.
func TestComposeTooHigh(t *testing.T) {
	deep := nested(c("{({i1} {b1})}"), 23, wraps()["cdr"])
	lists := nested(c("{P1}"), 24, wraps()["list, label"])
	if !coerce.Right(deep) || !coerce.Right(lists) {
		t.Fatal("not valid")
	}
	for _, x := range []coerce.C{coerce.Compose(deep, lists), coerce.Compose(lists, deep)} {
		if coerce.Height(x) <= 25 || coerce.Right(x) || !equal(coerce.Compose(x, x), x) || !equal(coerce.Compose(x, deep), composeBy(x, deep)) || !equal(coerce.Compose(lists, x), composeBy(lists, x)) {
			t.Error(coerce.Height(x))
		}
	}
}

// mostLevels is 2^16, or less where a level of wrap needs much memory.
func mostLevels(wrap func(coerce.C) coerce.C) int {
	if coerce.Size(wrap(coerce.C{})) > 3 {
		return 1 << 12
	}
	return 1 << 16
}

// P7.4: 2^16 levels are within the document's limits.
func TestComposeDeep(t *testing.T) {
	for place, wrap := range wraps() {
		levels := mostLevels(wrap)
		a, b := nested(c("{i1}"), levels-1, wrap), nested(c("{b2}"), levels-1, wrap)
		x := coerce.Compose(a, b)
		want := nested(c("{i1 b2}"), levels-1, wrap)
		if place == "argument" || place == "middle" || place == "first of 9" {
			x = coerce.Compose(b, a)
		}
		if !coerce.Same(x, want) {
			t.Errorf("%s: a Height of %d and a Size of %d", place, coerce.Height(x), coerce.Size(x))
		}
	}
	// together they are as high as both
	pairs, lists := nested(c("{({} {i1})}"), 498, wraps()["cdr"]), nested(c("{b2}"), 499, wraps()["list"])
	if h := coerce.Height(coerce.Compose(pairs, lists)); h != 999 {
		t.Error(h)
	}
}

// P0: Compose ends and does not panic, whatever it is given.
func TestComposeOdd(t *testing.T) {
	valid := of("{}", "{[{i1}]5 !}", "{({i1} {}) <{i1} {} {}>}", "{P1 F1}")
	all := append(odd(), valid...)
	for _, a := range all {
		for _, b := range all {
			coerce.Compose(a, b)
		}
	}
	for i, a := range endless() {
		coerce.Compose(a, a)
		for j, b := range []coerce.C{valid[i%4], endless()[i*3%7]} {
			x := []coerce.C{a, b}
			coerce.Compose(x[(i+j)%2], x[(i+j+1)%2])
		}
	}
}
