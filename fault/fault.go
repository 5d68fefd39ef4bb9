// Package fault is layer 1: see shared/doc/01-fault.md.
package fault

import (
	"errors"
	"strconv"
	"strings"

	"platelayer/api"
)

// Fault is an error that tells where it came from.
type Fault struct {
	Op  string
	At  int
	Err error
}

// Error is it as words. The trail is gone through in a loop, since words that
// are joined level by level would be copied once for each level.
func (f *Fault) Error() string {
	var words strings.Builder
	var end error
	for f != nil {
		words.WriteString(f.Op + " " + strconv.Itoa(f.At) + ": ")
		end = f.Err
		f = met(end)
	}
	if end != nil {
		words.WriteString(end.Error())
	}
	return words.String()
}

// Unwrap tells what it wraps.
func (f *Fault) Unwrap() error {
	if f == nil {
		return nil
	}
	return f.Err
}

// Wrap wraps an error. Only OK itself counts as none: a fault that holds OK
// was made on purpose, and stays an error.
func Wrap(op string, at int, err error) error {
	switch e := err.(type) {
	case nil:
		return nil
	case api.Errno:
		if e == api.OK {
			return nil
		}
	}
	return &Fault{Op: op, At: at, Err: err}
}

// Code tells an error's code.
func Code(err error) api.Errno {
	code := api.OK
	if errors.As(err, &code) {
		return code
	}
	return api.OK
}

// Is tells whether an error has a code.
func Is(err error, e api.Errno) bool {
	return err != nil && e != api.OK && errors.Is(err, e)
}

// Trail tells an error's Ops.
func Trail(err error) []string {
	var trail []string
	for f := met(err); f != nil; f = met(f.Err) {
		trail = append(trail, f.Op)
	}
	return trail
}

// Place tells the At of an Op.
func Place(err error, op string) (int, bool) {
	for f := met(err); f != nil; f = met(f.Err) {
		if f.Op == op {
			return f.At, true
		}
	}
	return 0, false
}

// met tells the fault that an error is; any other kind ends a trail.
func met(err error) *Fault {
	switch e := err.(type) {
	case *Fault:
		return e
	default:
		return nil
	}
}
