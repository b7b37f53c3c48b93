package narrow_test

import (
	"math"
	"slices"
	"testing"

	"bezel/api"
	"bezel/narrow"
)

// facts are those of variables and tags in turn, as they stand.
func facts(l ...int) narrow.Facts {
	var f narrow.Facts
	for i := 0; i < len(l); i += 2 {
		f.L = append(f.L, narrow.Fact{Var: l[i], Tags: l[i+1]})
	}
	return f
}

func never(l ...int) narrow.Facts { return narrow.Facts{Never: true, L: facts(l...).L} }

// sameFacts compares facts as they stand. It can't tell a nil slice from an empty one (R2).
func sameFacts(a, b narrow.Facts) bool { return a.Never == b.Never && slices.Equal(a.L, b.L) }

func sameProps(a, b narrow.Prop) bool {
	return sameFacts(a.Then, b.Then) && sameFacts(a.Else, b.Else)
}

// isNormal says the normal form as the chapter does.
func isNormal(f narrow.Facts) bool {
	if f.Never {
		return len(f.L) == 0
	}
	for i, x := range f.L {
		if x.Tags < 0 || x.Tags > 254 || i > 0 && f.L[i-1].Var >= x.Var {
			return false
		}
	}
	return true
}

// stated are the tags that l states of a variable: 255 if it states nothing of it.
func stated(l []narrow.Fact, v int) int {
	tags := 255
	for _, f := range l {
		if f.Var == v {
			tags &= f.Tags
		}
	}
	return tags
}

// andOf and orOf are And and Or said once more, variable by variable, for facts of the variables vars, which rise.
func andOf(a, b narrow.Facts, vars []int) narrow.Facts {
	if a.Never || b.Never {
		return never()
	}
	return madeOf(vars, func(v int) int { return stated(a.L, v) & stated(b.L, v) })
}

func orOf(a, b narrow.Facts, vars []int) narrow.Facts {
	switch {
	case a.Never && b.Never:
		return never()
	case a.Never:
		return madeOf(vars, func(v int) int { return stated(b.L, v) })
	case b.Never:
		return madeOf(vars, func(v int) int { return stated(a.L, v) })
	}
	return madeOf(vars, func(v int) int { return stated(a.L, v) | stated(b.L, v) })
}

// madeOf are the facts in normal form with these tags for each of the variables.
func madeOf(vars []int, tags func(v int) int) narrow.Facts {
	var f narrow.Facts
	for _, v := range vars {
		if x := tags(v); x != 255 {
			f.L = append(f.L, narrow.Fact{Var: v, Tags: x})
		}
	}
	return f
}

// P6.2: Is, with all tags, and whatever else is set in the number.
func TestIs(t *testing.T) {
	for number, tags := range someNumbers() {
		for _, v := range []int{0, 1, 7, -1, math.MinInt, math.MaxInt} {
			want := narrow.Prop{Then: facts(v, tags), Else: facts(v, 255-tags)}
			if tags == 255 {
				want.Then = facts()
			}
			if tags == 0 {
				want.Else = facts()
			}
			if got := narrow.Is(v, number); !sameProps(got, want) {
				t.Errorf("%d, %d: %+v, not %+v", v, number, got, want)
			}
		}
	}
}

// P6.2: the props of variables, of truths, and of nothing.
func TestSimpleProps(t *testing.T) {
	for _, v := range []int{0, 1, 1000, -1, math.MinInt, math.MaxInt} {
		if got := narrow.Truth(v); !sameProps(got, narrow.Prop{Else: facts(v, api.TagBool)}) {
			t.Errorf("Truth of %d: %+v", v, got)
		}
	}
	if got := narrow.Const(true); !sameProps(got, narrow.Prop{Else: never()}) {
		t.Errorf("Const of true: %+v", got)
	}
	if got := narrow.Const(false); !sameProps(got, narrow.Prop{Then: never()}) {
		t.Errorf("Const of false: %+v", got)
	}
	if got := narrow.None(); !sameProps(got, narrow.Prop{}) {
		t.Errorf("None: %+v", got)
	}
}

// P6.3: facts that both hold, by example, in either order.
func TestAnd(t *testing.T) {
	for i, c := range []struct{ a, b, want narrow.Facts }{
		{facts(), facts(), facts()},
		{facts(0, 1), facts(), facts(0, 1)},
		{facts(0, 3), facts(0, 6), facts(0, 2)},
		{facts(0, 1), facts(0, 2), facts(0, 0)},
		{facts(0, 0), facts(0, 255), facts(0, 0)},
		{facts(0, 255), facts(0, 255), facts()},
		{facts(0, 255, 1, 7), facts(2, 255), facts(1, 7)},
		{facts(0, 1), facts(1, 2), facts(0, 1, 1, 2)},
		{facts(5, 1, 0, 2), facts(3, 4, -2, 8), facts(-2, 8, 0, 2, 3, 4, 5, 1)},
		{facts(math.MaxInt, 1, math.MinInt, 2), facts(0, 4), facts(math.MinInt, 2, 0, 4, math.MaxInt, 1)},
		{facts(0, 7, 0, 3), facts(0, 6, 0, 130), facts(0, 2)},
		{facts(0, 7, 1, 1, 0, 3), facts(), facts(0, 3, 1, 1)},
		{facts(0, 254, 0, 253), facts(0, 251), facts(0, 248)},
		{facts(0, 256+3, 1, -1, 2, -256), facts(0, 512+1), facts(0, 1, 2, 0)},
		{facts(0, -2), facts(), facts(0, 254)},
		{never(), facts(), never()},
		{never(), facts(0, 1), never()},
		{never(0, 1), facts(0, 1), never()},
		{never(), never(), never()},
		{never(1, 255), never(0, 3), never()},
	} {
		for _, got := range []narrow.Facts{narrow.And(c.a, c.b), narrow.And(c.b, c.a)} {
			if !sameFacts(got, c.want) {
				t.Errorf("%d: %+v, not %+v", i, got, c.want)
			}
		}
	}
}

// P6.3: facts of which one holds, by example, in either order.
func TestOr(t *testing.T) {
	for i, c := range []struct{ a, b, want narrow.Facts }{
		{facts(), facts(), facts()},
		{facts(0, 1), facts(), facts()},
		{facts(0, 1), facts(1, 1), facts()},
		{facts(0, 1), facts(0, 2), facts(0, 3)},
		{facts(0, 0), facts(0, 0), facts(0, 0)},
		{facts(0, 0), facts(0, 6), facts(0, 6)},
		{facts(0, 127), facts(0, 128), facts()},
		{facts(0, 254), facts(0, 1), facts()},
		{facts(0, 254), facts(0, 254), facts(0, 254)},
		{facts(0, 255), facts(0, 1), facts()},
		{facts(0, 1, 1, 2, 2, 4), facts(1, 8, 2, 16, 3, 32), facts(1, 10, 2, 20)},
		{facts(2, 4, 0, 1, 1, 2), facts(3, 32, 2, 16, 1, 8), facts(1, 10, 2, 20)},
		{facts(-1, 1, math.MinInt, 1, math.MaxInt, 1), facts(math.MaxInt, 2, -1, 4, math.MinInt, 8), facts(math.MinInt, 9, -1, 5, math.MaxInt, 3)},
		{facts(0, 7, 0, 1), facts(0, 2), facts(0, 3)},
		{facts(0, 1, 0, 2), facts(0, 4, 0, 8), facts(0, 0)},
		{facts(0, 1, 1, 1, 0, 2), facts(0, 4), facts(0, 4)},
		{facts(0, 256+1), facts(0, -254), facts(0, 3)},
		{facts(0, 256), facts(0, 512), facts(0, 0)},
		{facts(0, 1, 0, 254), facts(0, 255), facts()},
		{never(), facts(), facts()},
		{never(), facts(0, 1), facts(0, 1)},
		{never(0, 2, 1, 3), facts(0, 1), facts(0, 1)},
		{never(), facts(3, 256+2, 0, 7, 3, 3, 1, 255, 0, 14), facts(0, 6, 3, 2)},
		{never(), never(), never()},
		{never(0, 1), never(0, 2), never()},
	} {
		for _, got := range []narrow.Facts{narrow.Or(c.a, c.b), narrow.Or(c.b, c.a)} {
			if !sameFacts(got, c.want) {
				t.Errorf("%d: %+v, not %+v", i, got, c.want)
			}
		}
	}
}

// rows are all rows of up to so many of the facts of these variables and tags.
func rows(most int, vars, tags []int) []narrow.Facts {
	l := []narrow.Facts{{}}
	last := l
	for range most {
		var longer []narrow.Facts
		for _, f := range last {
			for _, v := range vars {
				for _, x := range tags {
					longer = append(longer, narrow.Facts{L: append(slices.Clone(f.L), narrow.Fact{Var: v, Tags: x})})
				}
			}
		}
		l, last = append(l, longer...), longer
	}
	return l
}

// P6.3: And and Or of all short rows, with and without Never, held against the rules said once more.
func TestAndOrOfShortRows(t *testing.T) {
	vars := []int{-1, 0, 2}
	l := rows(2, vars, []int{0, 1, 6, 254, 255, 257, -2})
	for _, f := range rows(3, vars, []int{3, 253}) {
		l = append(l, f, never(0, 1), narrow.Facts{Never: true, L: f.L})
	}
	for _, a := range l {
		for _, b := range l {
			and, or := narrow.And(a, b), narrow.Or(a, b)
			if !isNormal(and) || !sameFacts(and, andOf(a, b, vars)) {
				t.Fatalf("%+v and %+v: %+v", a, b, and)
			}
			if !isNormal(or) || !sameFacts(or, orOf(a, b, vars)) {
				t.Fatalf("%+v or %+v: %+v", a, b, or)
			}
		}
	}
}

// P6.3: rows of many facts, which do not stand in order.
func TestLongRows(t *testing.T) {
	const n = 1 << 12
	var a, b narrow.Facts
	var vars []int
	for i := range n {
		a.L = append(a.L, narrow.Fact{Var: i * 1001 % n, Tags: i % 256}, narrow.Fact{Var: i, Tags: 127})
		b.L = append(b.L, narrow.Fact{Var: (n - i) * 3, Tags: i * 7})
		vars = append(vars, i, n+i, 2*n+i)
	}
	vars = append(vars, 3*n)
	slices.Sort(vars)
	first, second := map[int]int{}, map[int]int{}
	for _, v := range vars {
		first[v], second[v] = 255, 255
	}
	for _, f := range a.L {
		first[f.Var] &= f.Tags
	}
	for _, f := range b.L {
		second[f.Var] &= f.Tags
	}
	if !sameFacts(narrow.And(a, b), madeOf(vars, func(v int) int { return first[v] & second[v] })) {
		t.Error("And of long rows")
	}
	if !sameFacts(narrow.Or(a, b), madeOf(vars, func(v int) int { return first[v] | second[v] })) {
		t.Error("Or of long rows")
	}
}

// someProps are props of all kinds, some of which are not in normal form.
func someProps() []narrow.Prop {
	parts := []narrow.Facts{facts(), facts(0, 1), facts(0, 6, 1, 3), facts(1, 0), facts(1, 254, 0, 257, 1, 3), facts(0, 255), never(), never(0, 1)}
	var l []narrow.Prop
	for _, a := range parts {
		for _, b := range parts {
			l = append(l, narrow.Prop{Then: a, Else: b})
		}
	}
	return l
}

// P6.4: Not exchanges the parts, as they stand, and Not of Not is the prop.
func TestNot(t *testing.T) {
	for i, p := range someProps() {
		if got := narrow.Not(p); !sameProps(got, narrow.Prop{Then: p.Else, Else: p.Then}) {
			t.Errorf("%d: %+v", i, got)
		}
		if got := narrow.Not(narrow.Not(p)); !sameProps(got, p) {
			t.Errorf("%d twice: %+v", i, got)
		}
	}
	if got := narrow.Not(narrow.Is(3, api.TagInt|api.TagStr)); !sameProps(got, narrow.Is(3, 255-5)) {
		t.Errorf("Not of Is: %+v", got)
	}
	if got := narrow.Not(narrow.Const(true)); !sameProps(got, narrow.Const(false)) {
		t.Errorf("Not of Const: %+v", got)
	}
	if got := narrow.Not(narrow.None()); !sameProps(got, narrow.None()) {
		t.Errorf("Not of None: %+v", got)
	}
}

// P6.4: If, by example.
func TestIf(t *testing.T) {
	is, truth, always, none := narrow.Is, narrow.Truth, narrow.Const, narrow.None()
	for i, c := range []struct {
		a, b, c     narrow.Prop
		then, other narrow.Facts
	}{
		{is(0, api.TagInt), is(1, api.TagStr), always(false), facts(0, api.TagInt, 1, api.TagStr), facts()}, // the chapter's example: and
		{is(0, 1), always(true), is(0, 2), facts(0, 3), facts(0, 252)},                                      // or
		{is(0, 1), always(true), is(1, 2), facts(), facts(0, 254, 1, 253)},
		{is(0, 1), always(false), always(true), facts(0, 254), facts(0, 1)}, // not
		{is(0, 1), always(true), always(false), facts(0, 1), facts(0, 254)},
		{is(0, 1), always(true), always(true), facts(), never()},
		{is(0, 1), always(false), always(false), never(), facts()},
		{is(0, 1), is(0, 2), always(false), facts(0, 0), facts()},
		{is(0, 1), none, none, facts(), facts()},
		{none, is(0, 1), is(0, 2), facts(0, 3), facts()},
		{none, is(0, 1), is(0, 1), facts(0, 1), facts(0, 254)},
		{always(true), is(0, 1), is(1, 2), facts(0, 1), facts(0, 254)},
		{always(false), is(0, 1), is(1, 2), facts(1, 2), facts(1, 253)},
		{always(true), always(false), always(true), never(), facts()},
		{always(false), always(false), always(true), facts(), never()},
		{truth(0), always(false), always(true), facts(0, api.TagBool), facts()},
		{truth(0), truth(1), always(false), facts(), facts()},
		{truth(0), truth(0), always(false), facts(), facts(0, api.TagBool)},
		{is(0, 3), is(0, 6), is(0, 12), facts(0, 14), facts(0, 241)},
		{is(0, 0), is(1, 1), is(2, 1), facts(), facts()},
		{is(0, 255), is(1, 1), always(false), facts(1, 1), facts()},
		{narrow.Prop{Then: never(), Else: never()}, is(0, 1), is(0, 2), never(), never()},
		{narrow.Prop{Then: facts(1, 1, 0, 3, 1, 257), Else: never(0, 7)}, narrow.Prop{Then: facts(0, 2), Else: facts(2, 255)}, none, facts(0, 2, 1, 1), facts(0, 3, 1, 1)},
	} {
		if got := narrow.If(c.a, c.b, c.c); !sameProps(got, narrow.Prop{Then: c.then, Else: c.other}) {
			t.Errorf("%d: %+v, not %+v and %+v", i, got, c.then, c.other)
		}
	}
}

// P6.4: If of props of all kinds, held against the chapter's words.
func TestIfOfMany(t *testing.T) {
	vars := []int{0, 1}
	l := someProps()
	for _, a := range l {
		for _, b := range l {
			for _, c := range l {
				want := narrow.Prop{
					Then: orOf(andOf(a.Then, b.Then, vars), andOf(a.Else, c.Then, vars), vars),
					Else: orOf(andOf(a.Then, b.Else, vars), andOf(a.Else, c.Else, vars), vars),
				}
				if got := narrow.If(a, b, c); !sameProps(got, want) {
					t.Fatalf("%+v, %+v, %+v: %+v, not %+v", a, b, c, got, want)
				}
			}
		}
	}
}

// A world assigns a value to each of two variables: its tag, and whether it is #f.
type world [2]struct {
	tag     int
	isFalse bool
}

func worlds() []world {
	var l []world
	for _, a := range tagBits() {
		for _, b := range tagBits() {
			for i := range 4 {
				w := world{{a, i&1 != 0}, {b, i&2 != 0}}
				if (a == api.TagBool || !w[0].isFalse) && (b == api.TagBool || !w[1].isFalse) {
					l = append(l, w)
				}
			}
		}
	}
	return l
}

// What a test may come to in a world; a test of which nothing is known may come to both.
const (
	mayBeTrue  = 1
	mayBeFalse = 2
)

// A test has a prop, and what it may come to in each world.
type test struct {
	prop narrow.Prop
	may  []int
}

// simpleTest is a test with this prop that comes in each world to what may says.
func simpleTest(p narrow.Prop, may func(w world) int) test {
	x := test{prop: p}
	for _, w := range worlds() {
		x.may = append(x.may, may(w))
	}
	return x
}

// outcome is what a test may come to that is known to be true or false.
func outcome(is bool) int {
	if is {
		return mayBeTrue
	}
	return mayBeFalse
}

// simpleTests are the tests that have no others in them.
func simpleTests() []test {
	l := []test{
		simpleTest(narrow.None(), func(world) int { return mayBeTrue | mayBeFalse }),
		simpleTest(narrow.Const(true), func(world) int { return mayBeTrue }),
		simpleTest(narrow.Const(false), func(world) int { return mayBeFalse }),
	}
	for v := range 2 {
		l = append(l, simpleTest(narrow.Truth(v), func(w world) int { return outcome(!w[v].isFalse) }))
		for _, tags := range []int{0, 255, api.TagInt, api.TagBool, 254, api.TagPair | api.TagNull} {
			l = append(l, simpleTest(narrow.Is(v, tags), func(w world) int { return outcome(w[v].tag&tags != 0) }))
		}
	}
	return l
}

func notTest(a test) test {
	x := test{prop: narrow.Not(a.prop)}
	for _, may := range a.may {
		x.may = append(x.may, may>>1|may<<1&2)
	}
	return x
}

func ifTest(a, b, c test) test {
	x := test{prop: narrow.If(a.prop, b.prop, c.prop), may: make([]int, len(a.may))}
	for i, may := range a.may {
		if may&mayBeTrue != 0 {
			x.may[i] |= b.may[i]
		}
		if may&mayBeFalse != 0 {
			x.may[i] |= c.may[i]
		}
	}
	return x
}

// holds reports whether f holds in w.
func holds(f narrow.Facts, w world) bool {
	for _, x := range f.L {
		if w[x.Var].tag&x.Tags == 0 {
			return false
		}
	}
	return !f.Never
}

// P6.5: where a test is true, what Then states holds, and where it is false, what Else states; in small tests of all kinds, in all worlds.
func TestTheorem(t *testing.T) {
	all := worlds()
	if len(all) != 81 {
		t.Fatal("the test's own worlds", len(all))
	}
	prove := func(x test) {
		if !isNormal(x.prop.Then) || !isNormal(x.prop.Else) {
			t.Fatalf("%+v is not in normal form", x.prop)
		}
		for i, w := range all {
			if x.may[i]&mayBeTrue != 0 && !holds(x.prop.Then, w) || x.may[i]&mayBeFalse != 0 && !holds(x.prop.Else, w) {
				t.Fatalf("%+v does not hold where the variables are %v", x.prop, w)
			}
		}
	}
	simple := simpleTests()
	var nested []test
	for _, a := range simple {
		prove(a)
		prove(notTest(a))
		for _, b := range simple {
			for _, c := range simple {
				x := ifTest(a, b, c)
				prove(x)
				prove(notTest(x))
				nested = append(nested, x)
			}
		}
	}
	for i, x := range nested {
		a, b := simple[i%len(simple)], notTest(nested[i*31%len(nested)])
		prove(ifTest(x, a, b))
		prove(ifTest(b, x, a))
		prove(ifTest(a, notTest(x), b))
		prove(ifTest(x, b, nested[i*7%len(nested)]))
		prove(ifTest(ifTest(b, a, x), notTest(ifTest(a, x, b)), a))
	}
}

// R3: no call changes facts that are handed in to it, and what is done to the slices of an answer does not come back.
func TestFactsStay(t *testing.T) {
	spoiled := func(f narrow.Facts) {
		for i := range f.L {
			f.L[i] = narrow.Fact{Var: 77, Tags: 77}
		}
		_ = append(f.L, narrow.Fact{Var: 78, Tags: 78})
	}
	copied := func(f narrow.Facts) narrow.Facts { return narrow.Facts{Never: f.Never, L: slices.Clone(f.L)} }
	room := facts(0, 1, 5, 3, 2, 4).L
	l := append(someProps(), narrow.Is(0, 1), narrow.Truth(0), narrow.Const(true), narrow.Prop{Then: narrow.Facts{L: room[:1]}, Else: narrow.Facts{L: room[:2]}})
	for _, p := range l {
		for _, q := range l {
			p0, q0 := narrow.Prop{Then: copied(p.Then), Else: copied(p.Else)}, narrow.Prop{Then: copied(q.Then), Else: copied(q.Else)}
			for _, x := range []narrow.Prop{narrow.Not(p), narrow.If(p, q, p), narrow.If(p, p, p), narrow.If(q, p, q), {Then: narrow.And(p.Then, q.Then), Else: narrow.Or(p.Then, q.Else)}, {Then: narrow.Or(p.Then, p.Then), Else: narrow.And(p.Else, p.Else)}} {
				then := copied(x.Then)
				spoiled(x.Else)
				if !sameFacts(x.Then, then) {
					t.Fatalf("the parts of an answer for %+v and %+v share a slice", p0, q0)
				}
				spoiled(x.Then)
			}
			narrow.Apply(make([]api.Type, 3), p.Then)
			if !sameProps(p, p0) || !sameProps(q, q0) || !slices.Equal(room, facts(0, 1, 5, 3, 2, 4).L) {
				t.Fatalf("%+v or %+v is changed", p0, q0)
			}
		}
	}
	for range 2 {
		for _, p := range []narrow.Prop{narrow.Is(0, 1), narrow.Truth(1), narrow.Const(false), narrow.None()} {
			spoiled(p.Then)
			spoiled(p.Else)
		}
		if !sameProps(narrow.Is(0, 1), narrow.Prop{Then: facts(0, 1), Else: facts(0, 254)}) || !sameProps(narrow.Truth(1), narrow.Prop{Else: facts(1, 2)}) || !sameProps(narrow.Const(false), narrow.Prop{Then: never()}) || !sameProps(narrow.None(), narrow.Prop{}) {
			t.Fatal("an answer comes back changed")
		}
	}
}
