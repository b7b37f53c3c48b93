package fault_test

import (
	"errors"
	"fmt"
	"slices"
	"strconv"
	"strings"
	"testing"

	"bezel/api"
	"bezel/fault"
)

// codes are all codes of package api, and numbers that are none of them.
var codes = []api.Errno{0, 1, 2, 3, 4, 5, 6, 7, 8, 9, 10, 11, 12, 13, 14, 99, -1}

// claimer says to errors.As and errors.Is that it is any code.
type claimer struct{}

func (claimer) Error() string { return "claimer" }
func (claimer) Is(error) bool { return true }
func (claimer) As(target any) bool {
	if code, ok := target.(*api.Errno); ok {
		*code = api.ErrDiv
		return true
	}
	return false
}

// circle unwraps to itself.
type circle struct{}

func (c *circle) Error() string { return "circle" }
func (c *circle) Unwrap() error { return c }

// list can't be compared.
type list []string

func (l list) Error() string { return strings.Join(l, "+") }

// holder panics on a nil pointer.
type holder struct{ text string }

func (h *holder) Error() string { return h.text }

// located looks like a fault, and is none.
type located struct {
	where string
	inner error
}

func (l located) Error() string { return l.where + "! " + l.inner.Error() }
func (l located) Unwrap() error { return l.inner }

// strangers are errors that are neither faults nor codes, with their words.
func strangers() []struct {
	e    error
	text string
} {
	code := api.ErrMem
	return []struct {
		e    error
		text string
	}{
		{errors.New("other"), "other"},
		{errors.New(""), ""},
		{errors.New("bezel: error 2"), "bezel: error 2"},
		{fmt.Errorf("w %w", api.ErrType), "w bezel: error 6"},
		{fmt.Errorf("w %w", fault.Make(api.ErrType, []string{"in"})), "w in: bezel: error 6"},
		{errors.Join(api.ErrForm, api.ErrShort), "bezel: error 2\nbezel: error 3"},
		{located{"at", api.ErrForm}, "at! bezel: error 2"},
		{claimer{}, "claimer"},
		{&circle{}, "circle"},
		{list{"a", "b"}, "a+b"},
		{&code, "bezel: error 10"},
		{(*holder)(nil), ""},
	}
}

// P1.1: In of no error is no error; any other error is wrapped, and errors.Unwrap gives it back.
func TestIn(t *testing.T) {
	if e := fault.In("x", nil); e != nil {
		t.Errorf("In of nil: %v", e)
	}
	if e := fault.In("", nil); e != nil {
		t.Errorf("In of nil, with no location: %v", e)
	}
	inner := errors.New("inner")
	for _, where := range []string{"x", "", "a: b", "\n", "\xff"} {
		e := fault.In(where, inner)
		if e == nil || e == inner {
			t.Fatalf("%q: %v is not wrapped", where, e)
		}
		if errors.Unwrap(e) != inner {
			t.Errorf("%q: wraps %v", where, errors.Unwrap(e))
		}
		if p := fault.Path(e); !slices.Equal(p, []string{where}) {
			t.Errorf("%q: path %q", where, p)
		}
		outer := fault.In("out", e)
		if errors.Unwrap(outer) != e {
			t.Errorf("%q: the fault of a fault wraps %v", where, errors.Unwrap(outer))
		}
	}
	if e := fault.In("x", api.OK); e == nil || errors.Unwrap(e) != api.OK {
		t.Errorf("the code OK as an error: %v", e)
	}
	if _, ok := errors.Unwrap(fault.In("x", list{"a"})).(list); !ok {
		t.Error("an error that can't be compared is not given back")
	}
}

// P1.1: Make of OK is no error, whatever the path.
func TestMakeOfOK(t *testing.T) {
	for _, path := range [][]string{nil, {}, {"a"}, {"a", "b"}} {
		if e := fault.Make(api.OK, path); e != nil {
			t.Errorf("%q: %v", path, e)
		}
	}
}

// P1.1: Make wraps the code with the last location first, so that the first one is the outermost.
func TestMake(t *testing.T) {
	for _, code := range codes[1:] {
		for _, path := range [][]string{nil, {}, {"a"}, {"a", "b"}, {"", "b", "", "b"}} {
			e := fault.Make(code, path)
			for i := range path {
				if p := fault.Path(e); !slices.Equal(p, path[i:]) {
					t.Fatalf("%d of %q: within %d faults the path is %q", code, path, i, p)
				}
				e = errors.Unwrap(e)
			}
			if e != code {
				t.Errorf("%d of %q: the innermost error is %v", code, path, e)
			}
		}
	}
}

// R3: Make neither changes nor keeps the path it is given.
func TestMakeKeepsNoPath(t *testing.T) {
	path := []string{"a", "b", "c"}
	e := fault.Make(api.ErrForm, path)
	if !slices.Equal(path, []string{"a", "b", "c"}) {
		t.Errorf("the argument is now %q", path)
	}
	path[0], path[2] = "x", "y"
	if s := fault.Text(e); s != "a: b: c: bezel: error 2" {
		t.Error(s)
	}
}

// P1.2: a chain that ends with a code has that code, and Is agrees with errors.Is on it.
func TestCodes(t *testing.T) {
	for _, code := range codes {
		for depth := range 4 {
			var e error = code
			for range depth {
				e = fault.In("x", e)
			}
			if c := fault.Code(e); c != code {
				t.Errorf("%d at depth %d: code %d", code, depth, c)
			}
			for _, asked := range codes {
				is := fault.Is(e, asked)
				if is != (asked == code) || is != errors.Is(e, asked) {
					t.Errorf("%d at depth %d: Is %d: %v", code, depth, asked, is)
				}
			}
		}
	}
}

// P1.2, P1.3: no error has the code OK, is of no code, and has no locations and no words.
func TestNoError(t *testing.T) {
	if c := fault.Code(nil); c != api.OK {
		t.Errorf("code %d", c)
	}
	for _, code := range codes {
		if fault.Is(nil, code) {
			t.Errorf("is of code %d", code)
		}
	}
	if p := fault.Path(nil); len(p) != 0 {
		t.Errorf("path %q", p)
	}
	if s := fault.Text(nil); s != "" {
		t.Errorf("text %q", s)
	}
}

// P1.2, P1.3: a chain that does not end with a code has the code ErrArg, even if its last element wraps or claims a code; its locations are those of the faults ahead of that element.
func TestStrangers(t *testing.T) {
	for _, x := range strangers() {
		for _, path := range [][]string{nil, {"a"}, {"a", "b", "c"}} {
			e, text := x.e, x.text
			for _, where := range slices.Backward(path) {
				e, text = fault.In(where, e), where+": "+text
			}
			if c := fault.Code(e); c != api.ErrArg {
				t.Errorf("%q in %q: code %d", x.text, path, c)
			}
			for _, code := range codes {
				if is := fault.Is(e, code); is != (code == api.ErrArg) {
					t.Errorf("%q in %q: Is %d: %v", x.text, path, code, is)
				}
			}
			if p := fault.Path(e); !slices.Equal(p, path) {
				t.Errorf("%q in %q: path %q", x.text, path, p)
			}
			if s := fault.Text(e); s != text {
				t.Errorf("%q in %q: text %q", x.text, path, s)
			}
		}
	}
}

// P1.2: the list that Path returns belongs to the caller.
func TestPathIsTheCallers(t *testing.T) {
	e := fault.Make(api.ErrName, []string{"a", "b"})
	p := fault.Path(e)
	p[0] = "x"
	p = append(p[:1], "y", "z")
	if again := fault.Path(e); !slices.Equal(again, []string{"a", "b"}) {
		t.Errorf("after a change of %q: %q", p, again)
	}
}

// P1.3: the text is the locations, each with a colon and a space, then the words of the code; Error of a fault is the same.
func TestText(t *testing.T) {
	for _, x := range []struct {
		e    error
		text string
	}{
		{fault.Make(api.ErrForm, []string{"a", "b"}), "a: b: bezel: error 2"},
		{fault.Make(api.ErrMany, nil), "bezel: error 13"},
		{fault.Make(-1, []string{"m"}), "m: bezel: error -1"},
		{fault.Make(api.ErrArg, []string{"", "b: ", ""}), ": b: : : bezel: error 1"},
		{fault.In("x", api.OK), "x: bezel: error 0"},
		{fault.In("main", fault.Make(api.ErrType, []string{"f", "3"})), "main: f: 3: bezel: error 6"},
		{fault.In("y", errors.New("other")), "y: other"},
		{api.ErrBlame, "bezel: error 9"},
	} {
		if s := fault.Text(x.e); s != x.text {
			t.Errorf("text %q, not %q", s, x.text)
		}
		if s := x.e.Error(); s != x.text {
			t.Errorf("Error %q, not %q", s, x.text)
		}
	}
	if s := fault.In("x", (*holder)(nil)).Error(); s != "x: " {
		t.Errorf("Error of a fault whose end panics: %q", s)
	}
}

// A fault may be held against others, also if what it wraps can't be compared.
func TestCompared(t *testing.T) {
	e := fault.In("x", list{"a"})
	if !errors.Is(e, e) || errors.Is(e, fault.In("x", list{"a"})) || errors.Is(e, api.ErrArg) {
		t.Error("held against others")
	}
}

// P1.4: however often an error is wrapped, its code stays, and its locations are returned in their order.
func TestManyTimes(t *testing.T) {
	const most = 1 << 16
	want := make([]string, most)
	for i := range want {
		want[i] = strconv.Itoa(i)
	}
	half := most / 2
	e := fault.Make(api.ErrFuel, want[half:])
	for i := half - 1; i >= 0; i-- {
		e = fault.In(want[i], e)
		if i%4096 == 0 && fault.Code(e) != api.ErrFuel {
			t.Fatalf("code %d at %d", fault.Code(e), i)
		}
	}
	if c := fault.Code(e); c != api.ErrFuel || !fault.Is(e, api.ErrFuel) || fault.Is(e, api.ErrArg) {
		t.Errorf("code %d", c)
	}
	if !slices.Equal(fault.Path(e), want) {
		t.Error("the locations are not in their order")
	}
	if fault.Text(e) != strings.Join(want, ": ")+": bezel: error 11" {
		t.Error("the text is not that of the locations")
	}
}
