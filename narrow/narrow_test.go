package narrow_test

import (
	"math"
	"slices"
	"testing"

	"bezel/api"
	"bezel/narrow"
	"bezel/types"
)

// The types of the tests are made here without the functions of the package, which are under test.

var (
	nothing  = api.Type{}
	anything = api.Type{All: true}
	allFuns  = api.Type{Fun: 2}
)

func flat(tags int) api.Type { return api.Type{Flat: tags} }

func pair(a, b api.Type) api.Type { return api.Type{Pair: 1, Pairs: []api.Type{a, b}} }

func list1(t api.Type) api.Type { return api.Type{Pair: 2, Pairs: []api.Type{t}} }

func list(t api.Type) api.Type {
	return api.Type{Flat: api.TagNull, Pair: 2, Pairs: []api.Type{t}}
}

// fun has the result last.
func fun(l ...api.Type) api.Type { return api.Type{Fun: 1, Funs: l} }

// union is a type of flat tags, of the pairs of one type, and of the procedures of another one.
func union(tags int, pairs, funs api.Type) api.Type {
	return api.Type{Flat: tags, Pair: pairs.Pair, Pairs: pairs.Pairs, Fun: funs.Fun, Funs: funs.Funs}
}

// everything is All as a union.
func everything() api.Type { return union(63, pair(anything, anything), allFuns) }

// equal compares all fields. It can't tell nil slices from empty ones (R2).
func equal(a, b api.Type) bool {
	return a.All == b.All && a.Flat == b.Flat && a.Pair == b.Pair && a.Fun == b.Fun && slices.EqualFunc(a.Pairs, b.Pairs, equal) && slices.EqualFunc(a.Funs, b.Funs, equal)
}

// clone is a deep copy of t.
func clone(t api.Type) api.Type {
	t.Pairs, t.Funs = cloneRow(t.Pairs), cloneRow(t.Funs)
	return t
}

func cloneRow(l []api.Type) []api.Type {
	var answer []api.Type
	for _, t := range l {
		answer = append(answer, clone(t))
	}
	return answer
}

// spoil writes into the slices of t, and behind them.
func spoil(t api.Type) {
	for _, l := range [][]api.Type{t.Pairs, t.Funs} {
		for i := range l {
			l[i] = flat(32)
		}
		_ = append(l, flat(32))
	}
}

// tagBits are the tags, one by one.
func tagBits() []int {
	return []int{api.TagInt, api.TagBool, api.TagStr, api.TagSym, api.TagNull, api.TagVoid, api.TagPair, api.TagProc}
}

// someNumbers are numbers to be used as tags, each with the tags that count in it.
func someNumbers() map[int]int {
	m := map[int]int{math.MaxInt: 255, math.MaxInt - 1: 254, math.MinInt: 0, math.MinInt + 1: 1, math.MinInt + 64: 64, -1: 255, -2: 254, -255: 1, -256: 0, -257: 255, -65: 191, 1<<40 + 128: 128, 1 << 8: 0, 1<<32 - 1: 255}
	for i := range 256 {
		m[i], m[i+256], m[i-256], m[i+768], m[i-1<<50] = i, i, i, i, i
	}
	return m
}

// small are all types of any flat tags, of five kinds of pairs, and of five kinds of procedures.
func small() []api.Type {
	var l []api.Type
	for tags := range 64 {
		for _, pairs := range []api.Type{nothing, pair(flat(1), flat(2)), pair(anything, anything), list1(flat(4)), list1(everything())} {
			for _, funs := range []api.Type{nothing, fun(flat(1)), fun(anything, nothing), fun(list(flat(8)), flat(2), pair(nothing, flat(1))), allFuns} {
				l = append(l, union(tags, pairs, funs))
			}
		}
	}
	return l
}

// P6.1: the tags of types of all forms.
func TestTags(t *testing.T) {
	for i, c := range []struct {
		t    api.Type
		want int
	}{
		{anything, 255}, {nothing, 0}, {flat(63), 63}, {flat(5), 5}, {flat(api.TagVoid), api.TagVoid}, {flat(api.TagInt), api.TagInt},
		{pair(flat(1), flat(2)), api.TagPair}, {pair(nothing, nothing), api.TagPair}, {pair(anything, allFuns), api.TagPair}, {list1(flat(1)), api.TagPair}, {list(flat(1)), api.TagPair | api.TagNull}, {list(anything), api.TagPair | api.TagNull},
		{allFuns, api.TagProc}, {fun(flat(1)), api.TagProc}, {fun(pair(flat(1), flat(1)), list(anything), flat(63)), api.TagProc},
		{union(0, pair(flat(1), flat(1)), allFuns), api.TagPair | api.TagProc}, {union(9, list1(flat(2)), fun(flat(4))), 9 | api.TagPair | api.TagProc}, {union(9, nothing, fun(flat(4))), 9 | api.TagProc}, {everything(), 255}, {union(62, pair(anything, anything), allFuns), 254},
	} {
		if got := narrow.Tags(c.t); got != c.want {
			t.Errorf("%d: %d, not %d", i, got, c.want)
		}
	}
	for i, x := range small() {
		want := x.Flat
		if len(x.Pairs) > 0 {
			want += 64
		}
		if x.Fun != 0 {
			want += 128
		}
		if got := narrow.Tags(x); got != want {
			t.Errorf("small %d: %d, not %d", i, got, want)
		}
	}
}

// P6.1: what Keep keeps of a type, by example.
func TestKeep(t *testing.T) {
	odd := union(1|16, list1(flat(4)), fun(flat(1), anything))
	for i, c := range []struct {
		t    api.Type
		tags int
		want api.Type
	}{
		{anything, 255, anything}, {anything, -1, anything}, {anything, 256 + 255, anything}, {anything, 0, nothing}, {anything, 256, nothing}, {anything, -256, nothing},
		{anything, api.TagPair, pair(anything, anything)}, {anything, api.TagProc, allFuns}, {anything, api.TagInt, flat(1)}, {anything, 63, flat(63)}, {anything, 64 + 128, union(0, pair(anything, anything), allFuns)}, {anything, 254, union(62, pair(anything, anything), allFuns)}, {anything, 127, union(63, pair(anything, anything), nothing)}, {anything, 191, union(63, nothing, allFuns)}, {anything, 256 + 64, pair(anything, anything)}, {anything, -128, allFuns}, {anything, ^64, union(63, nothing, allFuns)},
		{nothing, 255, nothing}, {nothing, 0, nothing}, {nothing, 64, nothing}, {nothing, 128, nothing}, {nothing, -1, nothing},
		{flat(7), 255, flat(7)}, {flat(7), 2, flat(2)}, {flat(7), 8, nothing}, {flat(7), 1 + 4 + 8 + 64, flat(5)}, {flat(63), 256 + 3, flat(3)}, {flat(63), -2, flat(62)}, {flat(32), 32, flat(32)},
		{pair(flat(1), flat(2)), 64, pair(flat(1), flat(2))}, {pair(flat(1), flat(2)), 191, nothing}, {pair(flat(1), flat(2)), 1, nothing}, {pair(anything, nothing), 65, pair(anything, nothing)},
		{list(flat(1)), 255, list(flat(1))}, {list(flat(1)), 64, list1(flat(1))}, {list(flat(1)), 16, flat(16)}, {list(flat(1)), 80, list(flat(1))}, {list(flat(1)), 175, nothing}, {list1(flat(1)), 64, list1(flat(1))}, {list1(flat(1)), 16, nothing},
		{fun(flat(1), flat(2)), 128, fun(flat(1), flat(2))}, {fun(flat(1), flat(2)), 127, nothing}, {fun(flat(1), flat(2)), -1, fun(flat(1), flat(2))}, {allFuns, 128, allFuns}, {allFuns, 64, nothing},
		{odd, 255, odd}, {odd, 0, nothing}, {odd, 64, list1(flat(4))}, {odd, 128, fun(flat(1), anything)}, {odd, 1, flat(1)}, {odd, 17, flat(17)}, {odd, 80, list(flat(4))}, {odd, 128 + 16, union(16, nothing, fun(flat(1), anything))}, {odd, 64 + 128, union(0, list1(flat(4)), fun(flat(1), anything))}, {odd, 46, nothing},
		{everything(), 255, everything()}, {everything(), 64, pair(anything, anything)}, {everything(), 3, flat(3)},
	} {
		if got := narrow.Keep(c.t, c.tags); !equal(got, c.want) {
			t.Errorf("%d: %+v, not %+v", i, got, c.want)
		}
	}
}

// P6.1: Keep of All, for all tags, and whatever else is set in the number.
func TestKeepOfAll(t *testing.T) {
	for number, tags := range someNumbers() {
		want := flat(tags % 64)
		if tags&64 != 0 {
			want = union(want.Flat, pair(anything, anything), nothing)
		}
		if tags&128 != 0 {
			want = union(want.Flat, want, allFuns)
		}
		if tags == 255 {
			want = anything
		}
		if got := narrow.Keep(anything, number); !equal(got, want) || !types.Right(got) {
			t.Errorf("%d: %+v, not %+v", number, got, want)
		}
	}
}

// P6.1, P6.5: Keep of all small types for all tags; what it keeps for these and for all others makes up the type.
func TestKeepOfSmall(t *testing.T) {
	for _, x := range small() {
		for tags := range 256 {
			want := api.Type{Flat: x.Flat & tags}
			if tags&64 != 0 {
				want.Pair, want.Pairs = x.Pair, x.Pairs
			}
			if tags&128 != 0 {
				want.Fun, want.Funs = x.Fun, x.Funs
			}
			got, rest := narrow.Keep(x, tags), narrow.Keep(x, 255-tags)
			if !equal(got, want) || !types.Right(got) {
				t.Fatalf("%d of %+v: %+v", tags, x, got)
			}
			if !equal(types.Join(got, rest), x) || !equal(types.Join(rest, narrow.Keep(x, tags-512)), x) {
				t.Fatalf("%d of %+v: %+v and %+v do not make up the type", tags, x, got, rest)
			}
			if narrow.Tags(got)|narrow.Tags(rest) != narrow.Tags(x) || narrow.Tags(got)&narrow.Tags(rest) != 0 || narrow.Tags(got)&^tags != 0 {
				t.Fatalf("%d of %+v: tags %d and %d", tags, x, narrow.Tags(got), narrow.Tags(rest))
			}
		}
	}
}

// P6.5: what Keep keeps of All for some tags and for all others has all values.
func TestKeepMakesUpAll(t *testing.T) {
	for tags := range 256 {
		got, rest := narrow.Keep(anything, tags), narrow.Keep(anything, ^tags)
		want := everything()
		if tags == 0 || tags == 255 {
			want = anything
		}
		if !equal(types.Join(got, rest), want) || narrow.Tags(got)+narrow.Tags(rest) != 255 || narrow.Tags(got) != tags {
			t.Errorf("%d: %+v and %+v", tags, got, rest)
		}
	}
}

// P6.4: the types of variables where facts hold.
func TestApply(t *testing.T) {
	env := []api.Type{anything, list(flat(1)), union(3, nothing, allFuns), flat(4)}
	with := func(i int, x api.Type) []api.Type {
		l := slices.Clone(env)
		l[i] = x
		return l
	}
	for i, c := range []struct {
		f    narrow.Facts
		want []api.Type
	}{
		{facts(), env},
		{facts(0, 255), env},
		{facts(1, 255), env},
		{facts(0, 1), with(0, flat(1))},
		{facts(0, 64), with(0, pair(anything, anything))},
		{facts(0, 256+128), with(0, allFuns)},
		{facts(0, -2), with(0, union(62, pair(anything, anything), allFuns))},
		{facts(0, 0), with(0, nothing)},
		{facts(1, 64), with(1, list1(flat(1)))},
		{facts(1, 16), with(1, flat(16))},
		{facts(2, 130), with(2, union(2, nothing, allFuns))},
		{facts(3, 1), with(3, nothing)},
		{facts(3, 4), env},
		{facts(-1, 0), env},
		{facts(4, 0), env},
		{facts(math.MinInt, 0, math.MaxInt, 0, 1<<32, 0, -4, 0), env},
		{facts(-1, 0, 3, 0, 4, 0), with(3, nothing)},
		// several elements for a variable, one after the other
		{facts(0, 64+128, 0, 128+1), with(0, allFuns)},
		{facts(0, 255, 0, 2), with(0, flat(2))},
		{facts(0, 2, 0, 255), with(0, flat(2))},
		{facts(0, 1, 0, 2), with(0, nothing)},
		{facts(0, 7, 0, 14, 0, 12), with(0, flat(4))},
		{facts(1, 80, 1, 16), with(1, flat(16))},
		// in any order
		{facts(3, 0, 0, 1, 3, 255, 0, 1), []api.Type{flat(1), env[1], env[2], nothing}},
		{facts(2, 1, 1, 16, 0, 32), []api.Type{flat(32), flat(16), flat(1), env[3]}},
		{narrow.Facts{Never: true}, make([]api.Type, 4)},
		{narrow.Facts{Never: true, L: facts(0, 255, 1, 16).L}, make([]api.Type, 4)},
	} {
		if got := narrow.Apply(env, c.f); !slices.EqualFunc(got, c.want, equal) {
			t.Errorf("%d: %+v, not %+v", i, got, c.want)
		}
	}
	for i, f := range []narrow.Facts{facts(), facts(0, 1), facts(0, 0, 1, 0), facts(-1, 0), {Never: true}, {Never: true, L: facts(0, 1).L}} {
		if len(narrow.Apply(nil, f)) != 0 || len(narrow.Apply([]api.Type{}, f)) != 0 {
			t.Errorf("%d of no variables", i)
		}
		if got := narrow.Apply([]api.Type{nothing}, f); !slices.EqualFunc(got, []api.Type{nothing}, equal) {
			t.Errorf("%d of a variable without values: %+v", i, got)
		}
	}
}

// P6.4: Apply does for each element in turn what Keep does.
func TestApplyKeeps(t *testing.T) {
	for _, x := range append(small(), anything) {
		env := []api.Type{x, flat(63), x}
		for _, a := range []int{0, 1, 16, 64, 128, 200, 254, 255, 256, -1} {
			for _, b := range []int{255, 64, 129, 0, -16} {
				want := []api.Type{x, flat(63), narrow.Keep(narrow.Keep(x, a), b)}
				if got := narrow.Apply(env, facts(2, a, 2, b)); !slices.EqualFunc(got, want, equal) {
					t.Fatalf("%d, then %d of %+v: %+v", a, b, x, got)
				}
			}
		}
	}
}

// R3: no call changes types that are handed in to it, and what is done to the slices of an answer does not come back in a later one.
func TestTypesStay(t *testing.T) {
	for _, x := range append(small(), anything) {
		before := clone(x)
		env := []api.Type{x, anything, x}
		for _, tags := range []int{0, 16, 64, 128, 192, 255} {
			spoil(narrow.Keep(x, tags))
			narrow.Tags(x)
			for _, f := range []narrow.Facts{facts(), facts(0, tags), facts(2, tags, 0, 255), {Never: true}} {
				for _, y := range narrow.Apply(env, f) {
					spoil(y)
				}
				got := narrow.Apply(env, f)
				got[0], got[1], got[2] = nothing, nothing, nothing
				_ = append(got, nothing)
				if !equal(x, before) || !slices.EqualFunc(env, []api.Type{before, anything, before}, equal) {
					t.Fatalf("%+v is changed to %+v", before, x)
				}
			}
		}
	}
	room := []api.Type{flat(1), flat(2), flat(4)}
	_ = append(narrow.Apply(room[:2], facts(0, 1)), flat(8))
	if !equal(room[2], flat(4)) {
		t.Error("the answer stands in the slice of the argument")
	}
	for _, tags := range []int{64, 192, 255} { // what is taken from All is new each time
		spoil(narrow.Keep(anything, tags))
		if got := narrow.Keep(anything, 64); !equal(got, pair(anything, anything)) {
			t.Errorf("the pairs of All are changed to %+v", got)
		}
	}
}

// P0: no call panics on types that are not valid, and all end. What Tags and Keep answer of them is not promised; Apply leaves those alone of which nothing is stated.
func TestWrongTypes(t *testing.T) {
	inItself := pair(nothing, nothing)
	inItself.Pairs[0] = inItself
	l := []api.Type{{Pair: 1}, {Pair: 2}, {Pair: -1, Pairs: []api.Type{{}}}, {Pair: 1, Pairs: make([]api.Type, 1)}, {Pair: 7, Pairs: make([]api.Type, 3)}, {Fun: 1}, {Fun: 3, Funs: make([]api.Type, 20)}, {Fun: math.MinInt}, {All: true, Flat: -1, Pair: 1, Fun: 2}, {All: true, Funs: make([]api.Type, 3)}, {Flat: -1}, {Flat: math.MaxInt}, {Pairs: make([]api.Type, 2)}, {Funs: make([]api.Type, 2)}, inItself}
	for number := range someNumbers() {
		for _, x := range l {
			narrow.Tags(x)
			narrow.Keep(x, number)
		}
		narrow.Apply(l, narrow.Facts{L: []narrow.Fact{{number, 3}, {3, number}}})
	}
	got := narrow.Apply(l, facts(-1, 0, len(l), 0))
	if !slices.EqualFunc(got[:len(l)-1], l[:len(l)-1], equal) {
		t.Errorf("types of which nothing is stated: %+v", got)
	}
}
