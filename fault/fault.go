// Package fault is layer 1: errors with a path of the locations at which they occurred. See shared/doc/01-fault.md.
package fault

import (
	"errors"
	"slices"
	"strings"

	"bezel/api"
)

// fault is handed out by its address: errors.Is compares errors by ==, which would panic on a struct whose inner error can't be compared.
type fault struct {
	where string
	inner error
}

func (f *fault) Error() string { return Text(f) }

func (f *fault) Unwrap() error { return f.inner }

// In is e with a location; nil if e is nil.
func In(where string, e error) error {
	if e == nil {
		return nil
	}
	return &fault{where: where, inner: e}
}

// Make is the code as an error with the locations of path, the first of them the outermost; nil for the code OK.
func Make(code api.Errno, path []string) error {
	if code == api.OK {
		return nil
	}
	var e error = code
	for _, where := range slices.Backward(path) {
		e = In(where, e)
	}
	return e
}

// Code is the code at the end of the chain of e; ErrArg if the chain ends with another error, OK if e is nil.
func Code(e error) api.Errno {
	if e == nil {
		return api.OK
	}
	_, last := follow(e)
	var code api.Errno
	if isCode(last) && errors.As(last, &code) {
		return code
	}
	return api.ErrArg
}

// Is reports whether e is an error of that code.
func Is(e error, code api.Errno) bool {
	return e != nil && errors.Is(Code(e), code)
}

// Path is the list of the locations of e, the outermost first.
func Path(e error) []string {
	path, _ := follow(e)
	return path
}

// Text is e in words: its locations, then the words of the last error of its chain.
func Text(e error) string {
	if e == nil {
		return ""
	}
	path, last := follow(e)
	var b strings.Builder
	for _, where := range path {
		b.WriteString(where)
		b.WriteString(": ")
	}
	b.WriteString(words(last))
	return b.String()
}

// follow walks the chain of e and answers its locations and its last element. It does not ask for Unwrap, because an error that is no fault ends the chain even if it wraps another one.
func follow(e error) ([]string, error) {
	var path []string
	f, ok := e.(*fault)
	for ok {
		path = append(path, f.where)
		e = f.inner
		f, ok = e.(*fault)
	}
	return path, e
}

// isCode guards errors.As, which on its own would also accept a code that a foreign error wraps or claims to be, and would not end on one that unwraps to itself.
func isCode(e error) bool {
	_, ok := e.(api.Errno)
	return ok
}

// words is empty if the method Error of a foreign error panics (as it may on a nil pointer), because Text must not panic.
func words(e error) (s string) {
	defer func() { _ = recover() }()
	return e.Error()
}
