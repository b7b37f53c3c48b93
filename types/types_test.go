package types_test

import (
	"math"
	"reflect"
	"testing"

	"bezel/api"
	"bezel/types"
)

// The types of the tests are made here without the functions of the package, which are under test.

var (
	nothing  = api.Type{}
	anything = api.Type{All: true}
	allFuns  = api.Type{Fun: 2}
)

func flat(tags int) api.Type { return api.Type{Flat: tags} }

func pair(a, b api.Type) api.Type { return api.Type{Pair: 1, Pairs: []api.Type{a, b}} }

func list1(t api.Type) api.Type { return api.Type{Pair: 2, Pairs: []api.Type{t}} }

func list(t api.Type) api.Type {
	return api.Type{Flat: api.TagNull, Pair: 2, Pairs: []api.Type{t}}
}

// fun has the result last.
func fun(l ...api.Type) api.Type { return api.Type{Fun: 1, Funs: l} }

// repeated is a slice of so many times t.
func repeated(t api.Type, times int) []api.Type {
	l := make([]api.Type, times)
	for i := range l {
		l[i] = t
	}
	return l
}

// nested is t within so many types, each made by wrap.
func nested(t api.Type, levels int, wrap func(api.Type) api.Type) api.Type {
	for range levels {
		t = wrap(t)
	}
	return t
}

// wraps are all the places in which a type may stand within another one.
func wraps() map[string]func(api.Type) api.Type {
	return map[string]func(api.Type) api.Type{
		"car":        func(t api.Type) api.Type { return pair(t, flat(1)) },
		"cdr":        func(t api.Type) api.Type { return pair(flat(1), t) },
		"list1":      list1,
		"list":       list,
		"only":       func(t api.Type) api.Type { return fun(t) },
		"argument":   func(t api.Type) api.Type { return fun(t, flat(1)) },
		"result":     func(t api.Type) api.Type { return fun(flat(1), t) },
		"middle":     func(t api.Type) api.Type { return fun(flat(1), t, flat(1)) },
		"last of 9":  func(t api.Type) api.Type { return fun(append(repeated(flat(2), 8), t)...) },
		"with flats": func(t api.Type) api.Type { return api.Type{Flat: 63, Pair: 2, Pairs: []api.Type{t}} },
		"after pair": func(t api.Type) api.Type {
			return api.Type{Flat: 1, Pair: 1, Pairs: []api.Type{flat(1), flat(2)}, Fun: 1, Funs: []api.Type{t}}
		},
	}
}

// clone is a deep copy of t, in which empty stands for each slice without elements.
func clone(t api.Type, empty []api.Type) api.Type {
	t.Pairs, t.Funs = cloneRow(t.Pairs, empty), cloneRow(t.Funs, empty)
	return t
}

func cloneRow(l, empty []api.Type) []api.Type {
	if len(l) == 0 {
		return empty
	}
	answer := make([]api.Type, len(l))
	for i, t := range l {
		answer[i] = clone(t, empty)
	}
	return answer
}

// equal compares types without Same, which is under test. It can't tell nil slices from empty ones (R2).
func equal(a, b api.Type) bool { return reflect.DeepEqual(clone(a, nil), clone(b, nil)) }

// size is how many types there are in t, with t.
func size(t api.Type) int {
	n := 1
	for _, l := range [][]api.Type{t.Pairs, t.Funs} {
		for _, x := range l {
			n += size(x)
		}
	}
	return n
}

// depth is how deep t is.
func depth(t api.Type) int {
	most := 0
	for _, l := range [][]api.Type{t.Pairs, t.Funs} {
		for _, x := range l {
			most = max(most, depth(x))
		}
	}
	return most + 1
}

// ofSize is a type with so many types in it, at most 9 levels deep.
func ofSize(n int) api.Type {
	switch {
	case n == 1:
		return flat(1)
	case n == 2:
		return list(flat(2))
	case n <= 10:
		return fun(repeated(flat(4), n-1)...)
	}
	left := (n - 1) / 2
	return pair(ofSize(left), ofSize(n-1-left))
}

// inItself is a type whose components are the type itself.
func inItself(kind, count int) api.Type {
	l := make([]api.Type, count)
	t := api.Type{Flat: 1, Pair: kind, Pairs: l}
	for i := range l {
		l[i] = t
	}
	return t
}

// funInItself is a type of procedures whose arguments and results are such procedures.
func funInItself(count int) api.Type {
	l := make([]api.Type, count)
	t := api.Type{Flat: 2, Fun: 1, Funs: l}
	for i := range l {
		l[i] = t
	}
	return t
}

// allInItself is a type that contains itself everywhere.
func allInItself() api.Type {
	l := make([]api.Type, 2)
	t := api.Type{Flat: 4, Pair: 1, Pairs: l, Fun: 1, Funs: l}
	l[0], l[1] = t, t
	return t
}

// valid are valid types of all forms.
func valid() []api.Type {
	l := []api.Type{nothing, anything, allFuns, flat(63), list(anything), pair(nothing, nothing), fun(nothing),
		{Flat: 5, Pair: 1, Pairs: []api.Type{anything, flat(1)}, Fun: 2},
		{Flat: 48, Pair: 2, Pairs: []api.Type{list(flat(1))}, Fun: 1, Funs: []api.Type{flat(1), allFuns, pair(flat(1), flat(2))}},
		{Flat: 16, Fun: 1, Funs: []api.Type{fun(fun(flat(1)), list1(flat(2)))}},
		fun(repeated(anything, 9)...), ofSize(10), ofSize(11), ofSize(299), ofSize(300),
	}
	for _, tag := range []int{1, 2, 4, 8, 16, 32} {
		l = append(l, flat(tag), list1(flat(tag)), list(flat(tag)), pair(flat(tag), flat(63-tag)), fun(flat(tag)), fun(flat(tag), anything))
	}
	for _, wrap := range wraps() {
		l = append(l, nested(flat(4), 19, wrap), nested(nothing, 1, wrap), nested(anything, 2, wrap), nested(allFuns, 3, wrap))
	}
	return l
}

// wrong are types that are not valid.
func wrong() []api.Type {
	l := []api.Type{
		{All: true, Flat: 1}, {All: true, Flat: 63}, {All: true, Flat: -1}, {All: true, Pair: 1}, {All: true, Pairs: []api.Type{{}}}, {All: true, Fun: 1}, {All: true, Fun: 2}, {All: true, Funs: []api.Type{{}}},
		{All: true, Pair: 1, Pairs: []api.Type{flat(1), flat(1)}}, {All: true, Pair: 2, Pairs: []api.Type{flat(1)}}, {All: true, Fun: 1, Funs: []api.Type{flat(1)}},
		inItself(1, 2), inItself(2, 1), funInItself(1), funInItself(9), ofSize(301), ofSize(302), ofSize(1000),
	}
	for _, tags := range []int{-1, -2, -63, -64, 64, 65, 127, 128, 192, 255, 256, math.MaxInt, math.MinInt, math.MinInt + 1} {
		l = append(l, flat(tags))
	}
	for _, kind := range []int{-2, -1, 0, 1, 2, 3, 4, math.MaxInt, math.MinInt} {
		for n := range 12 {
			if need, ok := map[int]int{0: 0, 1: 2, 2: 1}[kind]; !ok || need != n {
				l = append(l, api.Type{Pair: kind, Pairs: repeated(flat(1), n)}, api.Type{Flat: 16, Pair: kind, Pairs: repeated(anything, n)})
			}
			if n > 0 && (kind != 1 || n > 9) || n == 0 && kind != 0 && kind != 2 {
				l = append(l, api.Type{Fun: kind, Funs: repeated(flat(1), n)}, api.Type{Flat: 16, Fun: kind, Funs: repeated(anything, n)})
			}
		}
	}
	for _, wrap := range wraps() {
		l = append(l, nested(flat(4), 20, wrap), nested(flat(4), 21, wrap), nested(flat(4), 1000, wrap))
	}
	return l
}

// P5.1: valid types, with nil slices and with empty ones.
func TestRight(t *testing.T) {
	for i, x := range valid() {
		if !types.Right(x) || !types.Right(clone(x, nil)) || !types.Right(clone(x, []api.Type{})) {
			t.Errorf("%d: %+v is valid", i, x)
		}
	}
}

// P5.1: a type that is not valid makes all types around it so.
func TestRightOfWrong(t *testing.T) {
	for i, x := range wrong() {
		if types.Right(x) {
			t.Errorf("%d is not valid", i)
		}
		for place, wrap := range wraps() {
			if types.Right(wrap(x)) || types.Right(nested(x, 5, wrap)) {
				t.Errorf("%d is not valid as %s", i, place)
			}
		}
	}
}

// P5.1: so many components, and no more and no fewer, for each Pair and each Fun.
func TestRightComponents(t *testing.T) {
	for kind := -2; kind < 5; kind++ {
		for n := range 13 {
			l := repeated(flat(1), n)
			wantPairs := kind == 0 && n == 0 || kind == 1 && n == 2 || kind == 2 && n == 1
			wantFuns := kind == 0 && n == 0 || kind == 1 && n >= 1 && n <= 9 || kind == 2 && n == 0
			if types.Right(api.Type{Flat: 3, Pair: kind, Pairs: l}) != wantPairs {
				t.Errorf("Pair %d of %d", kind, n)
			}
			if types.Right(api.Type{Flat: 3, Fun: kind, Funs: l}) != wantFuns {
				t.Errorf("Fun %d of %d", kind, n)
			}
		}
	}
	for tags := -300; tags < 300; tags++ {
		if types.Right(flat(tags)) != (tags >= 0 && tags <= 63) {
			t.Errorf("Flat %d", tags)
		}
	}
}

// P5.1: a type is at most 20 deep, on every way down.
func TestRightDepth(t *testing.T) {
	for place, wrap := range wraps() {
		for levels := range 40 {
			x := nested(flat(1), levels, wrap)
			if depth(x) != levels+1 {
				t.Fatal("the depth of the test's own type", depth(x), levels)
			}
			if types.Right(x) != (levels <= 19) {
				t.Errorf("%s: %d levels", place, levels+1)
			}
		}
		if types.Right(nested(flat(1), 1<<16, wrap)) {
			t.Errorf("%s: very deep", place)
		}
	}
	for levels := 1; levels < 40; levels++ {
		deep := nested(flat(1), levels-1, list1)
		for i, x := range []api.Type{pair(deep, flat(1)), pair(flat(1), deep), pair(list(flat(1)), deep), fun(deep, list1(flat(1)), flat(1)), fun(flat(1), deep, deep), {Pair: 2, Pairs: []api.Type{flat(1)}, Fun: 1, Funs: []api.Type{deep}}, {Pair: 2, Pairs: []api.Type{deep}, Fun: 1, Funs: []api.Type{flat(1)}}} {
			if types.Right(x) != (depth(x) <= 20) || levels > 1 && depth(x) != levels+1 {
				t.Errorf("%d: %d levels in one place", i, levels)
			}
		}
	}
}

// P5.1: a type has at most 300 types in it, wherever they stand.
func TestRightSize(t *testing.T) {
	for n := 1; n < 700; n++ {
		x := ofSize(n)
		if size(x) != n || depth(x) > 10 {
			t.Fatal("the size of the test's own type", n, size(x), depth(x))
		}
		if types.Right(x) != (n <= 300) {
			t.Errorf("%d types", n)
		}
		for place, wrap := range wraps() {
			if y := wrap(x); types.Right(y) != (size(y) <= 300) {
				t.Errorf("%d types as %s", n, place)
			}
		}
	}
	shared := nested(flat(1), 9, func(x api.Type) api.Type { return pair(x, x) })
	if size(shared) != 1023 || types.Right(shared) || !types.Right(shared.Pairs[0].Pairs[0].Pairs[0]) {
		t.Error("a type that stands in several places counts in each")
	}
	if types.Right(nested(flat(1), 1000, func(x api.Type) api.Type { return pair(x, x) })) {
		t.Error("far too many types")
	}
}

// different are types of which no two are the same, whether or not they are valid.
func different() []api.Type {
	l := []api.Type{
		{}, {All: true}, {Flat: 1}, {Flat: 2}, {Flat: 63}, {Flat: 64}, {Flat: -1}, {Pair: 1}, {Pair: 2}, {Pair: -1}, {Fun: 1}, {Fun: 2}, {Fun: -1},
		{All: true, Flat: 1}, {All: true, Pair: 1}, {All: true, Fun: 1}, {All: true, Fun: 2}, {Flat: 1, Fun: 2}, {Flat: 1, Pair: 2}, {Pair: 1, Fun: 2}, {Pair: 2, Fun: 1},
		list(flat(1)), list1(flat(1)), list(flat(2)), list1(flat(2)), list(nothing), list1(nothing), list1(anything),
		pair(flat(1), flat(1)), pair(flat(1), flat(2)), pair(flat(2), flat(1)), pair(flat(1), nothing), pair(nothing, flat(1)),
		{Pairs: []api.Type{flat(1), flat(1)}}, {Pairs: []api.Type{flat(1)}}, {Funs: []api.Type{flat(1)}}, {Funs: []api.Type{flat(1), flat(1)}}, {Funs: []api.Type{flat(1), flat(2)}},
		{Pair: 1, Pairs: []api.Type{flat(1)}}, {Pair: 1, Pairs: repeated(flat(1), 3)}, {Pair: 2, Pairs: repeated(flat(1), 2)}, {Pair: -1, Pairs: []api.Type{flat(1)}}, {Pair: 3, Pairs: []api.Type{flat(1)}}, {Fun: 2, Funs: []api.Type{flat(1)}},
		fun(flat(1)), fun(flat(2)), fun(flat(1), flat(1)), fun(flat(1), flat(2)), fun(flat(2), flat(1)), fun(repeated(flat(1), 9)...), fun(repeated(flat(1), 10)...), fun(nothing), fun(anything),
		{Pair: 2, Pairs: []api.Type{flat(1)}, Fun: 1, Funs: []api.Type{flat(1)}}, {Pair: 2, Pairs: []api.Type{flat(1)}, Fun: 1, Funs: []api.Type{flat(2)}}, {Pair: 2, Pairs: []api.Type{flat(2)}, Fun: 1, Funs: []api.Type{flat(1)}},
		ofSize(300), ofSize(301), ofSize(302),
	}
	places := wraps()
	for _, place := range []string{"car", "cdr", "list1", "list", "only", "argument", "result", "middle", "last of 9", "with flats", "after pair"} {
		for _, levels := range []int{2, 25} {
			for _, inner := range []api.Type{flat(4), flat(8), {Flat: 4, Fun: 2}} {
				l = append(l, nested(inner, levels, places[place]))
			}
		}
	}
	return l
}

// P5.1: Same tells whether all fields agree, in types of any kind; a nil slice is an empty one.
func TestSame(t *testing.T) {
	l := different()
	for i, a := range l {
		for j, b := range l {
			if types.Same(a, clone(b, []api.Type{})) != (i == j) {
				t.Errorf("%d and %d", i, j)
			}
		}
		if !types.Same(a, a) || !types.Same(clone(a, []api.Type{}), clone(a, nil)) {
			t.Errorf("%d is itself", i)
		}
	}
	deep := nested(flat(1), 1<<16, list1)
	if !types.Same(deep, clone(deep, nil)) || types.Same(deep, nested(flat(2), 1<<16, list1)) || types.Same(deep, nested(flat(1), 1<<16-1, list1)) {
		t.Error("many levels")
	}
	great := ofSize(1 << 19)
	if !types.Same(great, clone(great, nil)) || types.Same(great, ofSize(1<<19+1)) {
		t.Error("many types")
	}
}

// P0: a call with a type that contains itself ends. What it answers is not promised.
func TestTypeInItself(t *testing.T) {
	l := []api.Type{inItself(1, 2), inItself(2, 1), funInItself(1), funInItself(3), allInItself()}
	for _, a := range l {
		for _, b := range append(l, list(flat(1)), pair(anything, anything), anything, flat(63), nothing, allFuns) {
			types.Same(a, b)
			types.Sub(a, b)
			types.Sub(b, a)
			types.Join(a, b)
			types.Join(b, a)
		}
		types.Car(a)
		types.Cdr(a)
		if _, code := types.Datum(a); code != api.ErrArg || types.Right(a) {
			t.Error("a type that contains itself is not valid", code)
		}
	}
}

// P0: no call panics on types that are not valid, and all end.
func TestWrongTypes(t *testing.T) {
	l := append(wrong(), valid()...)
	for _, a := range l {
		types.Car(a)
		types.Cdr(a)
		types.ListOf(a)
		for _, b := range l {
			types.Sub(a, b)
			types.Join(a, b)
		}
	}
	doubled := nested(flat(1), 60, func(x api.Type) api.Type { return pair(x, x) })
	other := nested(flat(1), 60, func(x api.Type) api.Type { return pair(x, x) })
	types.Sub(doubled, other)
	types.Join(doubled, other)
}

// P5.1: Flat has just those of the flat tags that are set.
func TestFlat(t *testing.T) {
	for tags := -600; tags < 600; tags++ {
		want := 0
		for _, tag := range []int{api.TagInt, api.TagBool, api.TagStr, api.TagSym, api.TagNull, api.TagVoid} {
			if tags&tag != 0 {
				want |= tag
			}
		}
		if x := types.Flat(tags); !equal(x, flat(want)) || !types.Right(x) {
			t.Errorf("%d: %+v", tags, x)
		}
	}
	for tags, want := range map[int]int{math.MaxInt: 63, math.MinInt: 0, api.TagPair: 0, api.TagProc: 0, api.TagAll: 63, api.TagPair | api.TagVoid: 32, -1: 63, -64: 0} {
		if x := types.Flat(tags); !equal(x, flat(want)) {
			t.Errorf("%d: %+v", tags, x)
		}
	}
}

// P5.1: types are made of components of any kind.
func TestMade(t *testing.T) {
	if x := types.All(); !equal(x, anything) || !types.Right(x) {
		t.Errorf("%+v", x)
	}
	l := append(different(), wrong()[:11]...)
	for _, a := range l {
		if x := types.ListOf(a); !equal(x, api.Type{Flat: 16, Pair: 2, Pairs: []api.Type{a}}) {
			t.Errorf("a list of %+v: %+v", a, x)
		}
		if x := types.Fun(a); !equal(x, fun(a)) {
			t.Errorf("a procedure with result %+v: %+v", a, x)
		}
		for _, b := range l[:30] {
			if x := types.Pair(a, b); !equal(x, pair(a, b)) {
				t.Errorf("%+v and %+v: %+v", a, b, x)
			}
			if x := types.Fun(a, b); !equal(x, fun(b, a)) {
				t.Errorf("from %+v to %+v: %+v", b, a, x)
			}
			if x := types.Fun(a, b, flat(1), b); !equal(x, fun(b, flat(1), b, a)) {
				t.Errorf("from three to %+v: %+v", a, x)
			}
		}
	}
	for n := range 20 {
		args := make([]api.Type, n)
		for i := range args {
			args[i] = flat(i)
		}
		x := types.Fun(allFuns, args...)
		if !equal(x, fun(append(cloneRow(args, nil), allFuns)...)) || types.Right(x) != (n <= 8) {
			t.Errorf("%d arguments: %+v", n, x)
		}
	}
	if x := types.Fun(flat(1), []api.Type{}...); !equal(x, fun(flat(1))) {
		t.Errorf("an empty row of arguments: %+v", x)
	}
}

// P5.1: Car and Cdr of types with pairs, with lists, with neither, and of All.
func TestCarAndCdr(t *testing.T) {
	with := func(x api.Type) api.Type { // the same with other components
		x.Flat, x.Fun, x.Funs = x.Flat|33, 1, []api.Type{flat(1), flat(2)}
		return x
	}
	odd := api.Type{Flat: 3, Pair: 2, Pairs: []api.Type{flat(1)}, Fun: 2}
	for i, c := range []struct{ t, car, cdr api.Type }{
		{anything, anything, anything},
		{pair(flat(1), flat(2)), flat(1), flat(2)},
		{pair(nothing, anything), nothing, anything},
		{pair(odd, list(flat(4))), odd, list(flat(4))},
		{list1(flat(1)), flat(1), list(flat(1))},
		{list(flat(1)), flat(1), list(flat(1))},
		{list(nothing), nothing, list(nothing)},
		{list1(anything), anything, list(anything)},
		{list(odd), odd, list(odd)},
		{with(pair(flat(4), list1(flat(1)))), flat(4), list1(flat(1))},
		{with(list1(flat(4))), flat(4), list(flat(4))},
		{with(list(list1(flat(4)))), list1(flat(4)), list(list1(flat(4)))},
		{nested(flat(8), 19, list1), nested(flat(8), 18, list1), list(nested(flat(8), 18, list1))},
	} {
		if x, ok := types.Car(c.t); !ok || !equal(x, c.car) {
			t.Errorf("%d: car %+v, %v", i, x, ok)
		}
		if x, ok := types.Cdr(c.t); !ok || !equal(x, c.cdr) {
			t.Errorf("%d: cdr %+v, %v", i, x, ok)
		}
	}
	for i, x := range []api.Type{nothing, flat(1), flat(16), flat(63), allFuns, fun(flat(1)), fun(list(flat(1)), pair(flat(1), flat(1))), {Flat: 16, Fun: 2}} {
		car, hasCar := types.Car(x)
		cdr, hasCdr := types.Cdr(x)
		if hasCar || hasCdr || !equal(car, nothing) || !equal(cdr, nothing) {
			t.Errorf("%d has no pairs: %+v, %v, %+v, %v", i, car, hasCar, cdr, hasCdr)
		}
	}
}

// R3: Fun keeps no slice of its caller, nor writes into it.
func TestFunCopies(t *testing.T) {
	room := []api.Type{flat(1), flat(2), flat(4), flat(8)}
	x := types.Fun(flat(32), room[:2]...)
	y := types.Fun(flat(16), room[:2]...)
	if !equal(room[2], flat(4)) || !equal(x, fun(flat(1), flat(2), flat(32))) || !equal(y, fun(flat(1), flat(2), flat(16))) {
		t.Error("the result stands in the slice of the arguments")
	}
	room[0], room[1] = anything, anything
	if !equal(x, fun(flat(1), flat(2), flat(32))) {
		t.Error("the arguments stand in the slice of the caller")
	}
}

// R3: no call changes what is handed in to it, and what is done to the slice of an answer does not come back in a later one.
func TestArgumentsStay(t *testing.T) {
	spoil := func(l []api.Type) {
		for i := range l {
			l[i] = flat(32)
		}
		_ = append(l, flat(32))
	}
	l := valid()
	for i, a := range l {
		before := clone(a, nil)
		for _, b := range l {
			other := clone(b, nil)
			for _, x := range []api.Type{types.Join(a, b), types.Pair(a, b), types.ListOf(a), types.Fun(a, b)} {
				spoil(x.Pairs)
				spoil(x.Funs)
			}
			types.Sub(a, b)
			types.Same(a, b)
			if !equal(a, before) || !equal(b, other) {
				t.Fatalf("%d is changed", i)
			}
		}
		cdr, _ := types.Cdr(list(a))
		spoil(cdr.Pairs)
		types.Datum(a)
		if !equal(a, before) {
			t.Fatalf("%d is changed", i)
		}
	}
}
