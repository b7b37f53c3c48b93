package num_test

import (
	"math"
	"math/big"
	"reflect"
	"regexp"
	"slices"
	"strconv"
	"strings"
	"testing"

	"bezel/api"
	"bezel/num"
)

const base = 1_000_000_000

// exact is the integer with the text s, as the library has it.
func exact(s string) *big.Int {
	n, ok := new(big.Int).SetString(s, 10)
	if !ok {
		panic(s)
	}
	return n
}

// read is the integer with the text s.
func read(t *testing.T, s string) num.Int {
	t.Helper()
	a, code := num.Read(s)
	if code != api.OK {
		t.Fatalf("%q: %d", s, code)
	}
	return a
}

// plainParts are the Parts of n, as the library has them.
func plainParts(n *big.Int) (bool, []uint32) {
	var l []uint32
	for rest := new(big.Int).Abs(n); rest.Sign() > 0; {
		digit := new(big.Int)
		rest.QuoRem(rest, big.NewInt(base), digit)
		l = append(l, uint32(digit.Uint64()))
	}
	return n.Sign() < 0, l
}

// is reports whether a is n, seen through Parts.
func is(a num.Int, n *big.Int) bool {
	minus, l := a.Parts()
	wantMinus, want := plainParts(n)
	return minus == wantMinus && slices.Equal(l, want)
}

// zero reports whether a is the zero value, which must stand beside an error.
func zero(a num.Int) bool { return reflect.DeepEqual(a, num.Int{}) }

// edges are the texts of numbers at the edges: of ints, of Small, and of digits, of either sign.
func edges() []string {
	texts := []string{"1", "2", "7", "9", "10", "99", "100", "12345678", "123456789", "1234567890", "98765432109876543210",
		"2305843009213693951", "2305843009213693952", "2305843009213693953", "4611686018427387904",
		"9223372036854775807", "9223372036854775808", "18446744073709551615", "18446744073709551616", "18446744073709551621",
		"4294967295", "4294967296", "499999999", "500000000", "500000001", "500000000000000000", "499999999999999999999999999",
		"10000000020000000003", "100000000200000000030000000004", strings.Repeat("1", 40), strings.Repeat("9", 200), "1" + strings.Repeat("0", 199)}
	for _, k := range []int{8, 9, 10, 17, 18, 19, 27, 36, 45} {
		zeros := strings.Repeat("0", k)
		texts = append(texts, "1"+zeros, "1"+zeros[1:]+"1", strings.Repeat("9", k), strings.Repeat("9", k-1)+"8", "2"+zeros)
	}
	for _, s := range texts {
		texts = append(texts, "-"+s)
	}
	return append(texts, "0")
}

// sample is a number, and the same as the library has it.
type sample struct {
	a num.Int
	n *big.Int
}

func samples(t *testing.T, texts []string) []sample {
	t.Helper()
	var l []sample
	for _, s := range texts {
		l = append(l, sample{read(t, s), exact(s)})
	}
	return l
}

// joined is the sample with these digits, of which the most significant ones may be 0.
func joined(t *testing.T, minus bool, digits ...uint32) sample {
	t.Helper()
	n := new(big.Int)
	for i := range len(digits) {
		n.Mul(n, big.NewInt(base)).Add(n, big.NewInt(int64(digits[len(digits)-1-i])))
	}
	for len(digits) > 0 && digits[len(digits)-1] == 0 {
		digits = digits[:len(digits)-1]
	}
	minus = minus && len(digits) > 0
	a, code := num.Join(minus, digits)
	if code != api.OK {
		t.Fatalf("%v %v: %d", minus, digits, code)
	}
	if minus {
		n.Neg(n)
	}
	return sample{a, n}
}

// rows calls f with every row of that many of the digits. The row is f's only during the call.
func rows(digits []uint32, length int, f func([]uint32)) {
	row := make([]uint32, length)
	var fill func(int)
	fill = func(at int) {
		if at == length {
			f(row)
			return
		}
		for _, d := range digits {
			row[at] = d
			fill(at + 1)
		}
	}
	fill(0)
}

// P4.1: Of has every int.
func TestOf(t *testing.T) {
	ints := []int{0, 1, 9, 10, base - 1, base, base + 1, base*base - 1, base * base, base*base + 1, 9 * base * base, 1<<61 - 1, 1 << 61, 1<<62 + 1, math.MaxInt32, math.MinInt32, math.MaxInt - 1, math.MaxInt, math.MinInt, math.MinInt + 1}
	for _, n := range ints {
		for _, n := range []int{n, -n} {
			a := num.Of(n)
			if a.Text() != strconv.Itoa(n) || !is(a, big.NewInt(int64(n))) {
				t.Errorf("%d: %s", n, a.Text())
			}
			if b := read(t, strconv.Itoa(n)); a.Cmp(b) != 0 || b.Cmp(a) != 0 {
				t.Errorf("%d is not what is read", n)
			}
		}
	}
}

// P4.1: the zero value, -0, and a 0 that comes of anything are one number.
func TestZero(t *testing.T) {
	seven, less := num.Of(7), num.Of(-7)
	quotient, _ := seven.Quo(num.Of(-8))
	rest, _ := less.Rem(seven)
	none, _ := num.Join(false, nil)
	empty, _ := num.Join(false, []uint32{})
	zeros := []num.Int{{}, num.Of(0), read(t, "0"), read(t, "-0"), read(t, "00"), read(t, "-0000000000"), read(t, strings.Repeat("0", 50)),
		seven.Add(less), less.Add(seven), seven.Sub(seven), less.Sub(less), less.Mul(num.Int{}), num.Int{}.Mul(less), quotient, rest, none, empty}
	for i, a := range zeros {
		minus, l := a.Parts()
		n, small := a.Small()
		if a.Text() != "0" || minus || len(l) != 0 || n != 0 || !small || !zero(a) {
			t.Errorf("%d: %q %v %v %d %v", i, a.Text(), minus, l, n, small)
		}
		for j, b := range zeros {
			if a.Cmp(b) != 0 || a.Add(b).Text() != "0" || a.Sub(b).Text() != "0" || a.Mul(b).Text() != "0" {
				t.Errorf("%d and %d differ", i, j)
			}
		}
		if a.Cmp(num.Of(1)) != -1 || a.Cmp(num.Of(-1)) != 1 || num.Of(1).Cmp(a) != 1 || num.Of(-1).Cmp(a) != -1 {
			t.Errorf("%d is not between -1 and 1", i)
		}
		if a.Add(less).Text() != "-7" || less.Add(a).Text() != "-7" || a.Sub(less).Text() != "7" || less.Sub(a).Text() != "-7" {
			t.Errorf("%d is not neutral", i)
		}
	}
}

// P4.1: leading zeros are skipped, however many there are.
func TestLeadingZeros(t *testing.T) {
	for _, s := range []string{"1", "7", "10", "12345678", "123456789", "1234567890", "100000000000000000", "1000000000000000000", "9000000000000000000000000001"} {
		for k := range 30 {
			padded := strings.Repeat("0", k) + s
			if a := read(t, padded); a.Text() != s || !is(a, exact(s)) {
				t.Errorf("%s: %s", padded, a.Text())
			}
			if a := read(t, "-"+padded); a.Text() != "-"+s || !is(a, exact("-"+s)) {
				t.Errorf("-%s: %s", padded, a.Text())
			}
		}
	}
	long := strings.Repeat("0", 1<<16) + "5"
	if a := read(t, long); a.Text() != "5" || a.Cmp(num.Of(5)) != 0 {
		t.Error(a.Text())
	}
}

// refuses fails unless Read answers ErrForm and the zero value.
func refuses(t *testing.T, s string) {
	t.Helper()
	if a, code := num.Read(s); code != api.ErrForm || !zero(a) {
		t.Errorf("%q: %s, %d", s, a.Text(), code)
	}
}

// P4.1: what is no text of a number is refused.
func TestReadRefuses(t *testing.T) {
	for _, s := range []string{"", "-", "--", "--1", "+", "+1", "-+1", "1-", "1-1", "-1-", "- 1", " ", " 1", "1 ", "1\n", "1\x00", "a", "1a", "0x1", "0b1", "1_0", "1,0", "1.0", "1.", ".1", "1e3", "#1", "'1", "١", "1١", "\xff", "−1"} {
		refuses(t, s)
	}
	for c := range 256 {
		if '0' <= c && c <= '9' {
			continue
		}
		for at := range 21 {
			s := []byte("123456789012345678901")
			s[at] = byte(c)
			if c == '-' && at == 0 {
				continue
			}
			refuses(t, string(s))
			refuses(t, "-"+string(s))
		}
	}
}

// P4.1: every short text is read as the document says.
func TestEveryShortText(t *testing.T) {
	form := regexp.MustCompile(`^-?[0-9]+$`)
	const alphabet = "-0195+ a"
	texts := []string{""}
	for range 6 {
		var longer []string
		for _, s := range texts {
			for i := range len(alphabet) {
				longer = append(longer, s+alphabet[i:i+1])
			}
		}
		for _, s := range longer {
			if !form.MatchString(s) {
				refuses(t, s)
				continue
			}
			if a := read(t, s); a.Text() != exact(s).String() {
				t.Errorf("%q: %s", s, a.Text())
			}
		}
		texts = longer
	}
}

// P4.1: the text of a number has its digits, with those zeros that stand within it.
func TestText(t *testing.T) {
	for _, s := range edges() {
		if a := read(t, s); a.Text() != s || !is(a, exact(s)) {
			t.Errorf("%s: %s", s, a.Text())
		}
	}
	for length := 1; length <= 4; length++ {
		rows([]uint32{0, 1, 10, 12345678, 100000000, base - 1}, length, func(l []uint32) {
			for _, minus := range []bool{false, true} {
				x := joined(t, minus, l...)
				if x.a.Text() != x.n.String() || read(t, x.a.Text()).Cmp(x.a) != 0 {
					t.Errorf("%v: %s", l, x.a.Text())
				}
			}
		})
	}
}

// P4.1: Cmp orders the numbers.
func TestCmp(t *testing.T) {
	for _, x := range []struct {
		a, b string
		want int
	}{{"1", "2", -1}, {"2", "1", 1}, {"5", "5", 0}, {"-1", "1", -1}, {"1", "-1", 1}, {"-1", "-2", 1}, {"-2", "-1", -1}, {"-5", "-5", 0}, {"0", "-0", 0},
		{"999999999", "1000000000", -1}, {"-999999999", "-1000000000", 1}, {"1000000000", "-1000000000", 1}, {"-1000000000", "1000000000", -1},
		{"1000000002000000001", "2000000001000000002", -1}, {"2000000000000000001", "2000000000000000002", -1}, {"-2000000000000000001", "-2000000000000000002", 1}, {"-10000000000000000000", "9", -1}} {
		if got := read(t, x.a).Cmp(read(t, x.b)); got != x.want {
			t.Errorf("%s and %s: %d", x.a, x.b, got)
		}
	}
	l := samples(t, edges())
	for _, x := range l {
		for _, y := range l {
			if x.a.Cmp(y.a) != x.n.Cmp(y.n) {
				t.Errorf("%s and %s: %d", x.n, y.n, x.a.Cmp(y.a))
			}
		}
	}
}

// reckons fails unless all five operations answer for x and y what the library answers.
func reckons(t *testing.T, x, y sample) {
	t.Helper()
	if got := x.a.Add(y.a); !is(got, new(big.Int).Add(x.n, y.n)) {
		t.Fatalf("%s + %s: %s", x.n, y.n, got.Text())
	}
	if got := x.a.Sub(y.a); !is(got, new(big.Int).Sub(x.n, y.n)) {
		t.Fatalf("%s - %s: %s", x.n, y.n, got.Text())
	}
	if got := x.a.Mul(y.a); !is(got, new(big.Int).Mul(x.n, y.n)) {
		t.Fatalf("%s * %s: %s", x.n, y.n, got.Text())
	}
	divides(t, x, y)
}

// divides fails unless Quo and Rem answer for x and y what the library answers.
func divides(t *testing.T, x, y sample) {
	t.Helper()
	q, qCode := x.a.Quo(y.a)
	r, rCode := x.a.Rem(y.a)
	if y.n.Sign() == 0 {
		if qCode != api.ErrDiv || rCode != api.ErrDiv || !zero(q) || !zero(r) {
			t.Fatalf("%s by 0: %s (%d), %s (%d)", x.n, q.Text(), qCode, r.Text(), rCode)
		}
		return
	}
	wantQ, wantR := new(big.Int).QuoRem(x.n, y.n, new(big.Int))
	if qCode != api.OK || rCode != api.OK || !is(q, wantQ) || !is(r, wantR) {
		t.Fatalf("%s by %s: %s (%d), %s (%d)", x.n, y.n, q.Text(), qCode, r.Text(), rCode)
	}
}

// P4.2: all pairs of edges. The numbers themselves are unchanged by all of that.
func TestReckoning(t *testing.T) {
	l := samples(t, edges())
	for _, x := range l {
		for _, y := range l {
			reckons(t, x, y)
		}
	}
	for i, s := range edges() {
		if l[i].a.Text() != s {
			t.Errorf("%s has become %s", s, l[i].a.Text())
		}
	}
}

// P4.2: a few by hand.
func TestByHand(t *testing.T) {
	type row struct{ got, want string }
	text := func(a num.Int, code api.Errno) string {
		return a.Text() + " " + strconv.Itoa(int(code))
	}
	of := num.Of
	for i, x := range []row{
		{text(of(-7).Quo(of(2))), "-3 0"}, {text(of(-7).Rem(of(2))), "-1 0"},
		{text(of(7).Quo(of(2))), "3 0"}, {text(of(7).Rem(of(2))), "1 0"},
		{text(of(7).Quo(of(-2))), "-3 0"}, {text(of(7).Rem(of(-2))), "1 0"},
		{text(of(-7).Quo(of(-2))), "3 0"}, {text(of(-7).Rem(of(-2))), "-1 0"},
		{text(of(-6).Quo(of(3))), "-2 0"}, {text(of(-6).Rem(of(3))), "0 0"},
		{text(of(-2).Quo(of(7))), "0 0"}, {text(of(-2).Rem(of(7))), "-2 0"},
		{text(of(2).Quo(of(-7))), "0 0"}, {text(of(2).Rem(of(-7))), "2 0"},
		{text(of(0).Quo(of(-7))), "0 0"}, {text(of(0).Rem(of(-7))), "0 0"},
		{text(of(5).Quo(of(0))), "0 8"}, {text(of(5).Rem(of(0))), "0 8"},
		{text(of(0).Quo(num.Int{})), "0 8"}, {text(num.Int{}.Rem(num.Int{})), "0 8"},
		{text(of(-5).Quo(of(3).Sub(of(3)))), "0 8"}, {text(of(-5).Rem(of(0).Mul(of(-3)))), "0 8"},
		{of(2).Add(of(3)).Text(), "5"}, {of(2).Add(of(-3)).Text(), "-1"}, {of(-2).Add(of(3)).Text(), "1"}, {of(-2).Add(of(-3)).Text(), "-5"},
		{of(2).Sub(of(3)).Text(), "-1"}, {of(2).Sub(of(-3)).Text(), "5"}, {of(-2).Sub(of(3)).Text(), "-5"}, {of(-2).Sub(of(-3)).Text(), "1"},
		{of(2).Mul(of(3)).Text(), "6"}, {of(2).Mul(of(-3)).Text(), "-6"}, {of(-2).Mul(of(3)).Text(), "-6"}, {of(-2).Mul(of(-3)).Text(), "6"},
		{of(math.MinInt).Sub(of(1)).Text(), "-9223372036854775809"}, {of(math.MaxInt).Add(of(1)).Text(), "9223372036854775808"},
		{of(math.MinInt).Mul(of(-1)).Text(), "9223372036854775808"}, {text(of(math.MinInt).Quo(of(-1))), "9223372036854775808 0"}, {text(of(math.MinInt).Rem(of(-1))), "0 0"},
		{text(of(7).Quo(read(t, "-0"))), "0 8"},
	} {
		if x.got != x.want {
			t.Errorf("%d: %s, not %s", i, x.got, x.want)
		}
	}
}

// P4.2: sums and differences that carry through every digit, and such that come to 0.
func TestCarries(t *testing.T) {
	one := num.Of(1)
	for k := 1; k <= 60; k++ {
		nines, power := strings.Repeat("9", k), "1"+strings.Repeat("0", k)
		a, b := read(t, nines), read(t, power)
		minusA, minusB := read(t, "-"+nines), read(t, "-"+power)
		for i, x := range []struct {
			got  num.Int
			want string
		}{
			{a.Add(one), power}, {one.Add(a), power}, {b.Sub(one), nines}, {one.Sub(b), "-" + nines},
			{minusA.Sub(one), "-" + power}, {minusB.Add(one), "-" + nines}, {one.Add(minusB), "-" + nines},
			{b.Sub(a), "1"}, {a.Sub(b), "-1"}, {minusA.Add(b), "1"}, {minusB.Add(a), "-1"}, {a.Sub(minusB), "1" + strings.Repeat("9", k)},
			{a.Sub(a), "0"}, {b.Sub(b), "0"}, {a.Add(minusA), "0"}, {minusA.Add(a), "0"}, {minusB.Sub(minusB), "0"},
			{a.Mul(a), strings.Repeat("9", k-1) + "8" + strings.Repeat("0", k-1) + "1"}, {b.Mul(minusB), "-1" + strings.Repeat("0", 2*k)},
		} {
			if x.got.Text() != x.want {
				t.Errorf("%d digits, %d: %s, not %s", k, i, x.got.Text(), x.want)
			}
		}
	}
}

// P4.2, P4.4: long divisions with all rows of digits at the edges, where the first digits alone mislead about the quotient.
func TestLongDivision(t *testing.T) {
	digits := []uint32{0, 1, base/2 - 1, base / 2, base - 2, base - 1}
	collect := func(length int, digits ...uint32) []sample {
		var l []sample
		rows(digits, length, func(row []uint32) { l = append(l, joined(t, false, row...)) })
		return l
	}
	each := func(dividends, divisors []sample) {
		for _, y := range divisors {
			for _, x := range dividends {
				divides(t, x, y)
			}
		}
	}
	each(collect(4, digits...), collect(1, digits...))
	each(collect(4, digits...), collect(2, digits...))
	each(collect(4, digits...), collect(3, digits...))
	each(collect(5, 0, 1, base/2, base-1), collect(3, 0, 1, base/2, base-1))
	each(collect(6, 0, base/2, base-1), collect(4, 0, 1, base/2-1, base-1))
}

// P4.2: quotients whose every digit is given, with the least and the greatest remainder.
func TestQuotients(t *testing.T) {
	digits := []uint32{0, 1, base / 2, base - 1}
	one := big.NewInt(1)
	for _, length := range []int{1, 2, 3} {
		rows(digits, length, func(row []uint32) {
			y := joined(t, false, row...)
			if y.n.Sign() == 0 {
				return
			}
			rows(digits, 3, func(row []uint32) {
				q := joined(t, false, row...)
				whole := new(big.Int).Mul(q.n, y.n)
				for _, n := range []*big.Int{whole, new(big.Int).Sub(new(big.Int).Add(whole, y.n), one)} {
					got, code := read(t, n.String()).Quo(y.a)
					if code != api.OK || got.Cmp(q.a) != 0 {
						t.Fatalf("%s by %s: %s", n, y.n, got.Text())
					}
				}
			})
		})
	}
}

// P4.3: Small has just the numbers from -2^61 to 2^61 - 1.
func TestSmall(t *testing.T) {
	small := func(s string, want int) {
		t.Helper()
		if n, ok := read(t, s).Small(); n != want || !ok {
			t.Errorf("%s: %d, %v", s, n, ok)
		}
	}
	great := func(a num.Int) {
		t.Helper()
		if n, ok := a.Small(); n != 0 || ok {
			t.Errorf("%s: %d, %v", a.Text(), n, ok)
		}
	}
	small("2305843009213693950", 1<<61-2)
	small("2305843009213693951", 1<<61-1)
	small("-2305843009213693951", -1<<61+1)
	small("-2305843009213693952", -1<<61)
	for _, n := range []int{0, 1, -1, 7, -7, base - 1, base, base + 1, -base, 1 - base, base * base, -base * base, base*base - 1, 2 * base * base, -2 * base * base, math.MaxInt32, math.MinInt32} {
		small(strconv.Itoa(n), n)
		if got, ok := num.Of(n).Small(); got != n || !ok {
			t.Errorf("%d: %d, %v", n, got, ok)
		}
	}
	for _, s := range []string{"2305843009213693952", "2305843009213693953", "-2305843009213693953", "-2305843009213693954", "2305843010000000000", "3000000000000000000", "-3000000000000000000",
		"18446744073709551616", "18446744073709551617", "-18446744073709551617", "1000000000000000000000000000", "999999999999999999999999999", "-1000000000000000000000000001", "36893488147419103233"} {
		great(read(t, s))
	}
	for _, n := range []int{math.MaxInt, math.MinInt, 1 << 62, -1 << 62, 1 << 61, -1<<61 - 1} {
		great(num.Of(n))
	}
	for k := 64; k < 640; k += 9 { // low bits that look small
		great(read(t, new(big.Int).Add(new(big.Int).Lsh(big.NewInt(1), uint(k)), big.NewInt(5)).String()))
	}
}

// P4.3: Parts of powers of the base and their neighbours; Join is their inverse.
func TestParts(t *testing.T) {
	has := func(a num.Int, minus bool, want ...uint32) {
		t.Helper()
		gotMinus, got := a.Parts()
		if gotMinus != minus || !slices.Equal(got, want) {
			t.Errorf("%s: %v, %v", a.Text(), gotMinus, got)
		}
		if b, code := num.Join(minus, want); code != api.OK || b.Cmp(a) != 0 || b.Text() != a.Text() {
			t.Errorf("%v %v: %s, %d", minus, want, b.Text(), code)
		}
	}
	has(num.Int{}, false)
	has(num.Of(1), false, 1)
	has(num.Of(-1), true, 1)
	has(num.Of(1234567890123456789), false, 123456789, 234567890, 1)
	has(num.Of(math.MinInt), true, 854775808, 223372036, 9)
	for k := range 30 {
		power := strings.Repeat("0", 9*k)
		low := make([]uint32, k)
		nines := slices.Repeat([]uint32{base - 1}, k)
		has(read(t, "1"+power), false, append(low, 1)...)
		has(read(t, "-1"+power), true, append(low, 1)...)
		has(read(t, "-999999999"+power), true, append(low, base-1)...)
		has(read(t, "1"+power).Sub(num.Of(1)), false, nines...)
		has(num.Of(1).Sub(read(t, "10"+power)), true, append(nines, 9)...)
		if k > 0 {
			low[0] = 1
			has(read(t, "1"+power).Add(num.Of(1)), false, append(low, 1)...)
		}
	}
	for _, s := range edges() {
		minus, l := plainParts(exact(s))
		has(read(t, s), minus, l...)
	}
}

// P4.3: Join refuses what are no Parts of a number.
func TestJoinRefuses(t *testing.T) {
	refuses := func(minus bool, l ...uint32) {
		t.Helper()
		if a, code := num.Join(minus, l); code != api.ErrArg || !zero(a) {
			t.Errorf("%v %v: %s, %d", minus, l, a.Text(), code)
		}
	}
	refuses(true)
	if a, code := num.Join(true, []uint32{}); code != api.ErrArg || !zero(a) {
		t.Error(a.Text(), code)
	}
	for _, minus := range []bool{false, true} {
		refuses(minus, 0)
		refuses(minus, 0, 0)
		refuses(minus, 1, 0)
		refuses(minus, 1, 2, 3, 0)
		for _, wrong := range []uint32{base, base + 1, 1 << 30, math.MaxUint32} {
			refuses(minus, wrong)
			for at := range 5 {
				l := []uint32{5, 6, 7, 8, 9}
				l[at] = wrong
				refuses(minus, l...)
			}
		}
		for _, right := range [][]uint32{{1}, {base - 1}, {0, 1}, {base - 1, base - 1}, {0, 0, 0, 1}} {
			if a, code := num.Join(minus, right); code != api.OK || zero(a) {
				t.Errorf("%v %v: %d", minus, right, code)
			}
		}
	}
}

// R3: what Parts answers and what Join is given is not the number's own.
func TestNothingShared(t *testing.T) {
	given := []uint32{1, 2, 3}
	a, _ := num.Join(true, given)
	given[0], given[2] = 9, 0
	const want = "-3000000002000000001"
	_, l := a.Parts()
	l[1] = 7
	_, again := a.Parts()
	again = append(again, 5)
	again[0] = 8
	if a.Text() != want {
		t.Error(a.Text())
	}
	if b := a.Add(num.Int{}); b.Text() != want || a.Cmp(b) != 0 {
		t.Error(b.Text())
	}
	for _, s := range edges() {
		x := read(t, s)
		for _, y := range []num.Int{x, x.Add(num.Of(1)), x.Sub(x), x.Sub(num.Of(1)), x.Mul(num.Of(3))} {
			if _, l := y.Parts(); cap(l) != len(l) {
				t.Errorf("%s: %d digits in room for %d", y.Text(), len(l), cap(l))
			}
		}
	}
	room := []uint32{4, 5, 6, 7}
	if a, code := num.Join(false, room[:2]); a.Text() != "5000000004" || code != api.OK || !slices.Equal(room, []uint32{4, 5, 6, 7}) {
		t.Error(a.Text(), code, room)
	}
}

// P4.4: the laws of addition and multiplication.
func TestLaws(t *testing.T) {
	texts := []string{"0", "1", "-1", "7", "-10", "999999999", "-1000000000", "1000000001", "499999999500000000", "-999999999999999999", "1000000000000000000", "-9223372036854775808", "123456789012345678901234567890", "-" + strings.Repeat("9", 200)}
	l := samples(t, texts)
	for _, x := range l {
		for _, y := range l {
			a, b := x.a, y.a
			if a.Add(b).Cmp(b.Add(a)) != 0 || a.Mul(b).Cmp(b.Mul(a)) != 0 || a.Sub(b).Add(b).Cmp(a) != 0 {
				t.Errorf("%s, %s", x.n, y.n)
			}
			for _, z := range l {
				c := z.a
				if a.Add(b).Add(c).Cmp(a.Add(b.Add(c))) != 0 || a.Mul(b).Mul(c).Cmp(a.Mul(b.Mul(c))) != 0 || a.Mul(b.Add(c)).Cmp(a.Mul(b).Add(a.Mul(c))) != 0 {
					t.Errorf("%s, %s, %s", x.n, y.n, z.n)
				}
			}
		}
	}
}

// P4.4: quotient times divisor plus remainder is the dividend; the remainder is less than the divisor and has the dividend's sign.
func TestDivisionLaw(t *testing.T) {
	l := samples(t, edges())
	absolute := func(a num.Int) num.Int {
		if a.Cmp(num.Int{}) < 0 {
			return num.Int{}.Sub(a)
		}
		return a
	}
	for _, x := range l {
		for _, y := range l {
			if y.n.Sign() == 0 {
				continue
			}
			q, _ := x.a.Quo(y.a)
			r, _ := x.a.Rem(y.a)
			sign := r.Cmp(num.Int{})
			if q.Mul(y.a).Add(r).Cmp(x.a) != 0 || absolute(r).Cmp(absolute(y.a)) >= 0 || sign != 0 && sign != x.n.Sign() {
				t.Errorf("%s by %s: %s, %s", x.n, y.n, q.Text(), r.Text())
			}
		}
	}
}

// mixed are numbers of up to most digits each, which look like no pattern but are always the same.
func mixed(t *testing.T, count, most int) []sample {
	t.Helper()
	state := uint64(4)
	next := func() uint64 {
		state = state*6364136223846793005 + 1442695040888963407
		return state >> 33
	}
	var l []sample
	for range count {
		digits := make([]uint32, next()%uint64(most)+1)
		for i := range digits {
			digits[i] = uint32(next() % base)
		}
		l = append(l, joined(t, next()%2 == 0, digits...))
	}
	return l
}

// P4.1, P4.2, P4.4: numbers of many sizes without a pattern.
func TestMixed(t *testing.T) {
	l := mixed(t, 160, 30)
	for _, x := range l {
		if x.a.Text() != x.n.String() {
			t.Fatalf("%s: %s", x.n, x.a.Text())
		}
		for _, y := range l {
			reckons(t, x, y)
			if x.a.Cmp(y.a) != x.n.Cmp(y.n) {
				t.Fatalf("%s and %s: %d", x.n, y.n, x.a.Cmp(y.a))
			}
		}
	}
}

// P0: calls with long numbers end.
func TestLong(t *testing.T) {
	digits := strings.Repeat("1234567890", 100_000)
	a := read(t, "-"+digits)
	if a.Text() != "-"+digits {
		t.Error("the text of a long number")
	}
	if b := a.Sub(a.Add(a)).Add(a); !zero(b) {
		t.Error("the sum of a long number")
	}
	short := samples(t, []string{digits[:90_000], "-" + digits[:45_000] + "7", "-3"})
	for _, x := range short {
		for _, y := range short {
			reckons(t, x, y)
		}
	}
}
