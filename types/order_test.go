package types_test

import (
	"testing"

	"bezel/api"
	"bezel/datum"
	"bezel/types"
)

// ty is the type whose datum has the text s. That Read answers it is tested in text_test.go.
func ty(t *testing.T, s string) api.Type {
	t.Helper()
	l, _, code := datum.Read(s)
	if code != api.OK || len(l) != 1 {
		t.Fatalf("%q is not a datum", s)
	}
	x, code := types.Read(l[0])
	if code != api.OK {
		t.Fatalf("%q is not a type: %d", s, code)
	}
	return x
}

// text is the text of the datum of x.
func text(x api.Type) string {
	d, code := types.Datum(x)
	if code != api.OK {
		return "not valid"
	}
	s, _ := datum.Print(d)
	return s
}

// P5.4: subtypes, and what is none.
func TestSub(t *testing.T) {
	for _, c := range []struct {
		a, b string
		want bool
	}{
		{"Nothing", "Nothing", true}, {"Nothing", "Int", true}, {"Nothing", "Any", true}, {"Nothing", "(Pair Int Int)", true}, {"Nothing", "(-> Int)", true}, {"Int", "Nothing", false}, {"Proc", "Nothing", false}, {"(Pair Int Int)", "Nothing", false},
		{"Any", "Any", true}, {"Int", "Any", true}, {"(Pair Any Any)", "Any", true}, {"(U Int Proc)", "Any", true},
		{"Any", "Int", false}, {"Any", "Nothing", false}, {"Any", "(U Int Bool Str Sym Null Void (Pair Any Any) Proc)", false},
		{"Int", "Int", true}, {"Int", "Bool", false}, {"Int", "(U Int Bool)", true}, {"(U Int Bool)", "(U Bool Int Str)", true}, {"(U Int Bool)", "Int", false}, {"(U Int Bool)", "(U Int Str)", false}, {"(U Int Bool Str Sym Null Void)", "(U Int Bool Str Sym Null Void)", true}, {"Void", "(U Int Bool Str Sym Null)", false},
		{"(Pair Int Int)", "(Pair Int Int)", true}, {"(Pair Int Int)", "(Pair Any Int)", true}, {"(Pair Int Int)", "(Pair Int Any)", true}, {"(Pair Any Int)", "(Pair Int Int)", false}, {"(Pair Int Any)", "(Pair Int Int)", false}, {"(Pair Int Int)", "Int", false}, {"Int", "(Pair Int Int)", false}, {"(U Str (Pair Int Int))", "(Pair Int Int)", false}, {"(Pair Int Int)", "(U Str (Pair Int Int))", true}, {"(Pair Int Str)", "(Pair Str Int)", false}, {"(Pair Nothing Int)", "Nothing", false},
		{"(Pair Int Int)", "Proc", false}, {"Proc", "(Pair Any Any)", false}, {"(Pair Int Int)", "(-> Int Int)", false},
		{"(List1 Int)", "(List1 Int)", true}, {"(List1 Int)", "(List Int)", true}, {"(List Int)", "(List1 Int)", false}, {"(List1 Int)", "(List1 Any)", true}, {"(List1 Any)", "(List1 Int)", false}, {"(List Int)", "(List (U Int Str))", true}, {"(List (U Int Str))", "(List Int)", false}, {"Null", "(List Int)", true}, {"Null", "(List1 Int)", false}, {"(List Nothing)", "Null", false}, {"(List (List1 Int))", "(List (List Int))", true}, {"(List (List Int))", "(List (List1 Int))", false},
		// lists as pairs: the cdr of a list is a list that may be empty
		{"(List Int)", "(U Null (Pair Int Any))", true}, {"(List Int)", "(Pair Int Any)", false}, {"(List1 Int)", "(Pair Int Any)", true}, {"(List1 Int)", "(Pair Any (List Int))", true}, {"(List1 Int)", "(Pair Int (List1 Int))", false}, {"(List1 Int)", "(Pair Int (List Any))", true}, {"(List1 Any)", "(Pair Int Any)", false}, {"(List1 Int)", "(Pair Int Null)", false}, {"(List1 Int)", "(Pair Int (U Null (Pair Int (U Null (Pair Int Any)))))", true}, {"(List1 Int)", "(Pair Int (U Null (Pair Int (Pair Int Any))))", false}, {"(List1 Int)", "(Pair Int (U Null (Pair Str Any)))", false}, {"(List1 Nothing)", "(Pair Nothing Null)", false},
		// pairs as lists
		{"(Pair Int Null)", "(List1 Int)", true}, {"(Pair Int Null)", "(List Int)", true}, {"(Pair Int (List Int))", "(List1 Int)", true}, {"(Pair Int (List1 Int))", "(List1 Int)", true}, {"(Pair Int (List Str))", "(List1 Int)", false}, {"(Pair Str (List Int))", "(List1 Int)", false}, {"(Pair Str (List Int))", "(List1 (U Int Str))", true}, {"(Pair Int Int)", "(List1 Int)", false}, {"(Pair Int Any)", "(List1 Int)", false}, {"(Pair Int (U Null Int))", "(List1 Int)", false}, {"(Pair Int (Pair Int (Pair Int Null)))", "(List1 Int)", true}, {"(Pair Int (Pair Int (Pair Str Null)))", "(List1 Int)", false}, {"(Pair Int (Pair Int (Pair Int Int)))", "(List1 Any)", false}, {"(Pair Int Nothing)", "(List1 Int)", true}, {"(U Null (Pair Int (List Int)))", "(List Int)", true},
		{"Proc", "Proc", true}, {"(-> Int)", "Proc", true}, {"Proc", "(-> Int)", false}, {"Proc", "(-> Any Any)", false}, {"(U Int Proc)", "Proc", false}, {"Proc", "(U Int Proc)", true},
		{"(-> Int)", "(-> Int)", true}, {"(-> Int)", "(-> Any)", true}, {"(-> Any)", "(-> Int)", false}, {"(-> Nothing)", "(-> Int)", true},
		{"(-> Any Int)", "(-> Int Int)", true}, {"(-> Int Int)", "(-> Any Int)", false}, {"(-> Int Int)", "(-> Int Any)", true}, {"(-> Int Any)", "(-> Int Int)", false}, {"(-> Any Int)", "(-> Int Any)", true}, {"(-> Int Any)", "(-> Any Int)", false}, {"(-> Int Str)", "(-> Str Int)", false},
		{"(-> Any Int Int)", "(-> Int Int Int)", true}, {"(-> Int Any Int)", "(-> Int Int Int)", true}, {"(-> Int Int Int)", "(-> Any Int Int)", false}, {"(-> Int Int Int)", "(-> Int Any Int)", false}, {"(-> Int Int Int Int)", "(-> Int Int Any Int)", false},
		{"(-> Int Int)", "(-> Int)", false}, {"(-> Int)", "(-> Int Int)", false}, {"(-> Int Int Int)", "(-> Int Int)", false}, {"(-> Int Int)", "(-> Int Int Int)", false}, {"(-> Any Nothing)", "(-> Nothing Any Any)", false},
		{"(-> (-> Int Any) Int)", "(-> (-> Any Int) Int)", true}, {"(-> (-> Any Int) Int)", "(-> (-> Int Any) Int)", false}, {"(-> Proc Int)", "(-> (-> Int Int) Int)", true}, {"(-> (-> Int Int) Int)", "(-> Proc Int)", false}, {"(-> (-> (-> Int Any) Int) Int)", "(-> (-> (-> Any Int) Int) Int)", false}, {"(-> (-> (-> Any Int) Int) Int)", "(-> (-> (-> Int Any) Int) Int)", true},
		{"(-> (List Any) (List Int))", "(-> (Pair Int Null) (U Null (Pair Int Any)))", true},
		{"(U Int (Pair Int Int) (-> Int Int))", "(U Int Str (Pair Any Any) Proc)", true}, {"(U Int (Pair Int Int) (-> Int Int))", "(U Int (Pair Int Int))", false}, {"(U Int (Pair Int Int) (-> Int Int))", "(U Int (-> Int Int))", false}, {"(U Int (Pair Int Int) (-> Int Int))", "(U (Pair Int Int) (-> Int Int))", false},
		{"(Pair (Pair Int Str) (List (-> Any Int)))", "(Pair (Pair Any Str) (U Null (Pair (-> Int Any) Any)))", true},
	} {
		if got := types.Sub(ty(t, c.a), ty(t, c.b)); got != c.want {
			t.Errorf("%s below %s: %v", c.a, c.b, got)
		}
	}
}

// P5.5: what comes of two types, in either order.
func TestJoin(t *testing.T) {
	for _, c := range []struct{ a, b, want string }{
		{"Nothing", "Nothing", "Nothing"}, {"Nothing", "Int", "Int"}, {"Nothing", "Any", "Any"}, {"Nothing", "(List Int)", "(List Int)"}, {"Nothing", "(-> Int Str)", "(-> Int Str)"}, {"Nothing", "Proc", "Proc"}, {"Nothing", "(Pair Int Str)", "(Pair Int Str)"},
		{"Any", "Any", "Any"}, {"Any", "Int", "Any"}, {"Any", "(Pair Int Int)", "Any"}, {"Any", "(U Int Proc)", "Any"},
		{"Int", "Int", "Int"}, {"Int", "Bool", "(U Int Bool)"}, {"(U Int Bool)", "(U Bool Void)", "(U Int Bool Void)"}, {"(U Int Str Null)", "(U Bool Sym Void)", "(U Int Bool Str Sym Null Void)"},
		{"Int", "(Pair Int Str)", "(U Int (Pair Int Str))"}, {"Int", "(List1 Str)", "(U Int (List1 Str))"}, {"Null", "(List1 Str)", "(List Str)"}, {"Null", "(Pair Int Int)", "(U Null (Pair Int Int))"},
		{"(Pair Int Str)", "(Pair Int Str)", "(Pair Int Str)"}, {"(Pair Int Str)", "(Pair Bool Str)", "(Pair (U Int Bool) Str)"}, {"(Pair Int Str)", "(Pair Int Bool)", "(Pair Int (U Bool Str))"}, {"(Pair Int Str)", "(Pair Str Int)", "(Pair (U Int Str) (U Int Str))"}, {"(Pair Int Any)", "(Pair Any Int)", "(Pair Any Any)"}, {"(Pair Nothing Int)", "(Pair Int Nothing)", "(Pair Int Int)"},
		{"(List1 Int)", "(List1 Int)", "(List1 Int)"}, {"(List1 Int)", "(List1 Str)", "(List1 (U Int Str))"}, {"(List Int)", "(List1 Str)", "(List (U Int Str))"}, {"(List Int)", "(List Str)", "(List (U Int Str))"}, {"(List (List1 Int))", "(List (List Str))", "(List (List (U Int Str)))"}, {"(List Nothing)", "(List Int)", "(List Int)"},
		// a list with a pair that is none is a pair, whose cdr has the list
		{"(List1 Int)", "(Pair Int Int)", "(Pair Int (U Int (List Int)))"}, {"(List1 Int)", "(Pair Str Null)", "(Pair (U Int Str) (List Int))"}, {"(List Int)", "(Pair Str Str)", "(U Null (Pair (U Int Str) (U Str (List Int))))"}, {"(List1 Int)", "(Pair Int (List Str))", "(Pair Int (List (U Int Str)))"}, {"(List1 Int)", "(Pair Int (List1 Str))", "(Pair Int (List (U Int Str)))"}, {"(List1 Int)", "(Pair Int (Pair Str Bool))", "(Pair Int (U Null (Pair (U Int Str) (U Bool (List Int)))))"}, {"(List1 Int)", "(Pair Any Any)", "(Pair Any Any)"}, {"(List1 Any)", "(Pair Int Nothing)", "(Pair Any (List Any))"}, {"(List (List1 Int))", "(Pair (Pair Str Null) Null)", "(U Null (Pair (Pair (U Int Str) (List Int)) (List (List1 Int))))"},
		{"Proc", "Proc", "Proc"}, {"Proc", "(-> Int)", "Proc"}, {"(-> Int)", "(-> Int)", "(-> Int)"}, {"(-> Int)", "(-> Str)", "Proc"}, {"(-> Int Str)", "(-> Int Str)", "(-> Int Str)"}, {"(-> Int Str)", "(-> Str)", "Proc"}, {"(-> Int Str)", "(-> Int Int Str)", "Proc"}, {"(-> Int Str)", "(-> Any Str)", "Proc"}, {"(-> Int Str)", "(-> Int Any)", "Proc"}, {"(-> (List Int) Any Str)", "(-> (List Int) Any Str)", "(-> (List Int) Any Str)"}, {"(-> (List Int) Any Str)", "(-> (List Str) Any Str)", "Proc"}, {"(-> (-> Int Int) Int)", "(-> Proc Int)", "Proc"},
		{"Int", "(-> Int)", "(U Int (-> Int))"}, {"(Pair Int Int)", "(-> Int)", "(U (Pair Int Int) (-> Int))"}, {"(List Int)", "Proc", "(U (List Int) Proc)"},
		{"(U Int (Pair Int Int) (-> Int))", "(U Str (Pair Str Int) (-> Int))", "(U Int Str (Pair (U Int Str) Int) (-> Int))"}, {"(U Int (Pair Int Int) (-> Int))", "(U Null (List1 Int) (-> Str))", "(U Int Null (Pair Int (U Int (List Int))) Proc)"},
		{"(Pair (-> Int) (-> Int))", "(Pair (-> Int) (-> Str))", "(Pair (-> Int) Proc)"}, {"(List (-> Int))", "(List (-> Str))", "(List Proc)"},
	} {
		want := ty(t, c.want)
		for _, x := range []api.Type{types.Join(ty(t, c.a), ty(t, c.b)), types.Join(ty(t, c.b), ty(t, c.a))} {
			if !equal(x, want) {
				t.Errorf("%s and %s: %s, not %s", c.a, c.b, text(x), c.want)
			}
		}
	}
}

// small are some hundred types of few components: all that are made of the parts in one or two levels.
func small(parts []api.Type) []api.Type {
	l := append([]api.Type{}, parts...)
	for _, a := range parts {
		l = append(l, list1(a), list(a), fun(a), list(list1(a)), fun(list(a), a))
		for _, b := range parts {
			l = append(l, pair(a, b), fun(a, b), pair(a, list(b)), pair(a, pair(b, list(a))), pair(a, list1(pair(b, a))))
		}
	}
	for _, x := range l[len(parts):] {
		if len(l) < 400 && x.Flat == 0 {
			x.Flat = api.TagInt | api.TagNull
			l = append(l, x)
		}
	}
	return l
}

// laws fails unless the types of l obey the laws of subtypes and of joins.
func laws(t *testing.T, l []api.Type) {
	t.Helper()
	sub := make([][]bool, len(l))
	for i, a := range l {
		sub[i] = make([]bool, len(l))
		for j, b := range l {
			sub[i][j] = types.Sub(a, b)
			x := types.Join(a, b)
			if !types.Sub(a, x) || !types.Sub(b, x) {
				t.Fatalf("%s and %s are not below their join", text(a), text(b))
			}
			if y := types.Join(b, a); !equal(x, y) {
				t.Fatalf("%s and %s: the joins differ", text(a), text(b))
			}
		}
		if !sub[i][i] {
			t.Fatalf("%s is not below itself", text(a))
		}
		if !equal(types.Join(a, a), a) || !equal(types.Join(a, nothing), a) || !equal(types.Join(nothing, a), a) {
			t.Fatalf("%s joined with itself", text(a))
		}
	}
	for i := range l {
		for j := range l {
			for k := range l {
				if sub[i][j] && sub[j][k] && !sub[i][k] {
					t.Fatalf("%s below %s below %s", text(l[i]), text(l[j]), text(l[k]))
				}
			}
		}
	}
}

// P5.6: the laws, for small types.
func TestLaws(t *testing.T) {
	laws(t, small([]api.Type{nothing, flat(1), flat(16), flat(17), anything, allFuns}))
	laws(t, small([]api.Type{flat(2), list(flat(2)), pair(flat(2), flat(16)), fun(flat(2), flat(3))}))
	laws(t, small([]api.Type{list1(nothing), list(anything), pair(nothing, anything), fun(anything, nothing), fun(nothing, anything)}))
}

// stream are numbers that look like no pattern but are always the same.
type stream uint64

func (s *stream) next(n int) int {
	*s = *s*6364136223846793005 + 1442695040888963407
	return int(uint64(*s)>>33) % n
}

// mixed is a valid type of at most so many levels.
func (s *stream) mixed(levels int) api.Type {
	x := flat([]int{0, 1, 16, 17, 2, 63, s.next(64)}[s.next(7)])
	if s.next(12) == 0 {
		return anything
	}
	if levels <= 1 {
		return x
	}
	switch s.next(5) {
	case 0, 1:
		x.Pair, x.Pairs = 1, []api.Type{s.mixed(levels - 1), s.mixed(levels - 1)}
	case 2, 3:
		x.Pair, x.Pairs = 2, []api.Type{s.mixed(levels - 1)}
	}
	switch s.next(6) {
	case 0:
		x.Fun = 2
	case 1, 2:
		x.Fun = 1
		for range s.next(3) + 1 {
			x.Funs = append(x.Funs, s.mixed(levels-1))
		}
	}
	if size(x) > 300 {
		return flat(4)
	}
	return x
}

// P5.6: the laws, for types without a pattern.
func TestLawsOfMixed(t *testing.T) {
	s := stream(5)
	for levels := 2; levels < 8; levels++ {
		var l []api.Type
		for range 80 {
			l = append(l, s.mixed(levels))
		}
		laws(t, l)
		for i := range 40 { // so that one is often below the other
			l = append(l, types.Join(l[i], l[i+1]))
		}
		for _, a := range l {
			for _, b := range l {
				if types.Sub(a, b) != plainSub(a, b) {
					t.Fatalf("%s below %s: %v", text(a), text(b), !plainSub(a, b))
				}
				if !equal(types.Join(a, b), plainJoin(a, b)) {
					t.Fatalf("%s and %s", text(a), text(b))
				}
			}
		}
	}
}

// carOf and cdrOf are those of a type with pairs, which is not All.
func carOf(x api.Type) api.Type { return x.Pairs[0] }

func cdrOf(x api.Type) api.Type {
	if x.Pair == 2 {
		return api.Type{Flat: api.TagNull, Pair: 2, Pairs: x.Pairs}
	}
	return x.Pairs[1]
}

// plainSub is the chapter's rule of Sub, word by word.
func plainSub(a, b api.Type) bool {
	if b.All {
		return true
	}
	if a.All {
		return false
	}
	for tag := 1; tag < 64; tag *= 2 {
		if a.Flat&tag > b.Flat&tag {
			return false
		}
	}
	if a.Pair != 0 {
		if b.Pair == 0 || !plainSub(carOf(a), carOf(b)) {
			return false
		}
		if (a.Pair != 2 || b.Pair != 2) && !plainSub(cdrOf(a), cdrOf(b)) {
			return false
		}
	}
	if a.Fun == 0 || b.Fun == 2 {
		return true
	}
	if a.Fun != 1 || b.Fun != 1 || len(a.Funs) != len(b.Funs) {
		return false
	}
	for i := range a.Funs {
		if i == len(a.Funs)-1 {
			return plainSub(a.Funs[i], b.Funs[i])
		}
		if !plainSub(b.Funs[i], a.Funs[i]) {
			return false
		}
	}
	return false
}

// plainJoin is the chapter's rule of Join, word by word.
func plainJoin(a, b api.Type) api.Type {
	if a.All || b.All {
		return anything
	}
	x := flat(a.Flat | b.Flat)
	switch {
	case a.Pair == 0:
		x.Pair, x.Pairs = b.Pair, b.Pairs
	case b.Pair == 0:
		x.Pair, x.Pairs = a.Pair, a.Pairs
	case a.Pair == 2 && b.Pair == 2:
		x.Pair, x.Pairs = 2, []api.Type{plainJoin(carOf(a), carOf(b))}
	default:
		x.Pair, x.Pairs = 1, []api.Type{plainJoin(carOf(a), carOf(b)), plainJoin(cdrOf(a), cdrOf(b))}
	}
	switch {
	case a.Fun == 0:
		x.Fun, x.Funs = b.Fun, b.Funs
	case b.Fun == 0 || a.Fun == b.Fun && equal(fun(a.Funs...), fun(b.Funs...)):
		x.Fun, x.Funs = a.Fun, a.Funs
	default:
		x.Fun = 2
	}
	return x
}

// P5.6: great types are below what comes of joining them, even if that is too great to be valid.
func TestGreatJoin(t *testing.T) {
	var chains []api.Type // lists of lists .. of chains of pairs: their joins have the product of their sizes
	for levels := range 4 {
		chain := flat(16)
		for i := range 16 - 4*levels {
			chain = pair(nested(flat(1<<(i%4)), levels, list1), chain)
		}
		chains = append(chains, nested(chain, levels, list1))
	}
	chains = append(chains, ofSize(300), nested(flat(1), 19, list), nested(flat(2), 19, list1), nested(pair(flat(1), flat(2)), 18, list))
	notValid := false
	for _, a := range chains {
		for _, b := range chains {
			x := types.Join(a, b)
			notValid = notValid || !types.Right(x)
			if !types.Right(a) || !equal(x, plainJoin(a, b)) || !types.Sub(a, x) || !types.Sub(b, x) || types.Sub(x, a) != plainSub(x, a) {
				t.Errorf("%d and %d types", size(a), size(b))
			}
		}
	}
	if !notValid {
		t.Error("no join is too great")
	}
	spine := flat(16)
	for i := range 12 {
		spine = pair(ofSize(14), spine)
		spine.Flat = 16 * (i % 2)
	}
	elements := list1(ofSize(299))
	x := types.Join(elements, spine)
	if !types.Right(spine) || !types.Right(elements) || !equal(x, plainJoin(elements, spine)) || !types.Sub(spine, x) || !types.Sub(elements, x) || size(x) < 3000 {
		t.Error("a list of a great type with a row of pairs", size(x))
	}
}

// member is a value: an atom with the tag Flat (0: a procedure), or a pair.
type member struct {
	flat     int
	car, cdr *member
}

// members are values of up to so many levels of pairs.
func members(levels int) []*member {
	l := []*member{{flat: 1}, {flat: 2}, {flat: 16}, {}}
	atoms := len(l)
	for range levels {
		inner := l
		l = inner[:atoms:atoms]
		for _, a := range inner {
			for _, b := range inner {
				l = append(l, &member{car: a, cdr: b})
			}
		}
	}
	return l
}

// has tells whether v is a value of x, where procedures are values of Proc alone.
func has(x api.Type, v *member) bool {
	switch {
	case x.All:
		return true
	case v.flat != 0:
		return x.Flat&v.flat != 0
	case v.car == nil:
		return x.Fun == 2
	case x.Pair == 1:
		return has(x.Pairs[0], v.car) && has(x.Pairs[1], v.cdr)
	case x.Pair == 2:
		for ; v.car != nil; v = v.cdr {
			if !has(x.Pairs[0], v.car) {
				return false
			}
		}
		return v.flat == 16
	}
	return false
}

// someValues is a bit for each value, set where it is one of a type.
func someValues(x api.Type, l []*member) []uint64 {
	bits := make([]uint64, len(l)/64+1)
	for i, v := range l {
		if has(x, v) {
			bits[i/64] |= 1 << (i % 64)
		}
	}
	return bits
}

// within reports whether all bits of a are set in b.
func within(a, b []uint64) bool {
	for i := range a {
		if a[i]&^b[i] != 0 {
			return false
		}
	}
	return true
}

// withoutFuns are types without Fun 1, all of whose parts have values.
func withoutFuns() []api.Type {
	var l []api.Type
	parts := []api.Type{flat(1), flat(16), flat(3), anything, {Flat: 1, Fun: 2}}
	for _, a := range parts {
		l = append(l, a, list1(a), list(a), list(pair(a, flat(16))))
		for _, b := range parts {
			l = append(l, pair(a, b), pair(a, list(b)), pair(a, api.Type{Flat: 1, Pair: 2, Pairs: []api.Type{b}}), pair(a, pair(flat(1), b)), api.Type{Flat: 16, Pair: 1, Pairs: []api.Type{a, b}})
		}
	}
	return l
}

// P5.4 to P5.6: a type is below another one if and only if its values are among the other one's; a join has the values of both.
func TestValues(t *testing.T) {
	values := members(3)
	l := withoutFuns()
	var bits [][]uint64
	for _, x := range l {
		bits = append(bits, someValues(x, values))
	}
	for i, a := range l {
		for j, b := range l {
			if types.Sub(a, b) != within(bits[i], bits[j]) {
				t.Errorf("%s below %s: %v", text(a), text(b), types.Sub(a, b))
			}
		}
	}
	few := members(2)
	for _, a := range l {
		for _, b := range l {
			both := someValues(types.Join(a, b), few)
			if !within(someValues(a, few), both) || !within(someValues(b, few), both) {
				t.Errorf("%s and %s lose values in %s", text(a), text(b), text(types.Join(a, b)))
			}
		}
	}
}
