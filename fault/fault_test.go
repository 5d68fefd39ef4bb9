package fault_test

import (
	"errors"
	"math"
	"slices"
	"strconv"
	"strings"
	"testing"

	"platelayer/api"
	"platelayer/fault"
)

// codes are all errors that the document names, but OK.
var codes = []api.Errno{
	api.ErrArg, api.ErrForm, api.ErrShort, api.ErrSum, api.ErrZone, api.ErrTorn,
	api.ErrDown, api.ErrNone, api.ErrFull, api.ErrCorrupt, api.ErrState,
}

// levels is the deepest nesting of which the document promises anything.
const levels = 1 << 16

// deep wraps an error many times: the outermost Op is the greatest number.
func deep(many int, err error) error {
	for i := range many {
		err = fault.Wrap("op"+strconv.Itoa(i), i, err)
	}
	return err
}

// P1.1

func TestWrapOfNone(t *testing.T) {
	for _, op := range []string{"", "read"} {
		for _, at := range []int{math.MinInt, -1, 0, 1, math.MaxInt} {
			if err := fault.Wrap(op, at, nil); err != nil {
				t.Errorf("Wrap(%q, %d, nil) = %v", op, at, err)
			}
			if err := fault.Wrap(op, at, api.OK); err != nil {
				t.Errorf("Wrap(%q, %d, OK) = %v", op, at, err)
			}
		}
	}
	if err := fault.Wrap("outer", 1, fault.Wrap("inner", 2, api.OK)); err != nil {
		t.Errorf("none, wrapped twice: %v", err)
	}
}

func TestWrapMakesFault(t *testing.T) {
	for _, code := range codes {
		for _, op := range []string{"", "read", "two words", "a: b"} {
			for _, at := range []int{math.MinInt, -7, 0, 9, math.MaxInt} {
				err := fault.Wrap(op, at, code)
				f, ok := err.(*fault.Fault)
				if !ok {
					t.Fatalf("Wrap(%q, %d, %d) is a %T", op, at, code, err)
				}
				if *f != (fault.Fault{Op: op, At: at, Err: code}) {
					t.Errorf("Wrap(%q, %d, %d) = %+v", op, at, code, *f)
				}
			}
		}
	}
}

func TestWrapKeepsWhatItWraps(t *testing.T) {
	inner := fault.Wrap("page", 7, api.ErrTorn)
	outer := fault.Wrap("read", 3, inner)
	if errors.Unwrap(outer) != inner {
		t.Errorf("Unwrap of the outer one: %v", errors.Unwrap(outer))
	}
	if errors.Unwrap(inner) != api.ErrTorn {
		t.Errorf("Unwrap of the inner one: %v", errors.Unwrap(inner))
	}
	if *inner.(*fault.Fault) != (fault.Fault{Op: "page", At: 7, Err: api.ErrTorn}) {
		t.Errorf("the inner one was changed: %+v", inner)
	}
	if again := fault.Wrap("read", 3, inner); again == outer {
		t.Error("two wrappings are one fault")
	}
}

func TestErrorIsWords(t *testing.T) {
	for _, c := range []struct {
		err  error
		want string
	}{
		{fault.Wrap("page", 7, api.ErrTorn), "page 7: platelayer: error 6"},
		{fault.Wrap("page", 0, api.ErrArg), "page 0: platelayer: error 1"},
		{fault.Wrap("page", -7, api.ErrState), "page -7: platelayer: error 11"},
		{fault.Wrap("", 10, api.ErrFull), " 10: platelayer: error 9"},
		{fault.Wrap("a b", 1, api.ErrSum), "a b 1: platelayer: error 4"},
		{fault.Wrap("least", math.MinInt64, api.ErrArg), "least -9223372036854775808: platelayer: error 1"},
		{fault.Wrap("most", math.MaxInt64, api.ErrArg), "most 9223372036854775807: platelayer: error 1"},
		{fault.Wrap("read", 3, fault.Wrap("page", -7, api.ErrTorn)), "read 3: page -7: platelayer: error 6"},
		{fault.Wrap("a", 1, fault.Wrap("a", 2, fault.Wrap("a", 1, api.ErrDown))), "a 1: a 2: a 1: platelayer: error 7"},
	} {
		for range 2 {
			if got := c.err.Error(); got != c.want {
				t.Errorf("Error() = %q, want %q", got, c.want)
			}
		}
	}
}

func TestFaultMadeByHand(t *testing.T) {
	inner := &fault.Fault{Op: "page", At: -1, Err: api.ErrNone}
	outer := &fault.Fault{Op: "get", At: 5, Err: inner}
	if inner.Error() != "page -1: platelayer: error 8" {
		t.Errorf("inner: %q", inner.Error())
	}
	if outer.Error() != "get 5: page -1: platelayer: error 8" {
		t.Errorf("outer: %q", outer.Error())
	}
	if inner.Unwrap() != api.ErrNone || outer.Unwrap() != error(inner) {
		t.Errorf("Unwrap: %v, %v", inner.Unwrap(), outer.Unwrap())
	}
	if fault.Code(outer) != api.ErrNone || !fault.Is(outer, api.ErrNone) || fault.Is(outer, api.ErrArg) {
		t.Errorf("code: %d", fault.Code(outer))
	}
	if got := fault.Trail(outer); !slices.Equal(got, []string{"get", "page"}) {
		t.Errorf("trail: %q", got)
	}
	if at, ok := fault.Place(outer, "page"); at != -1 || !ok {
		t.Errorf("place: %d, %v", at, ok)
	}
	if err := fault.Wrap("top", 0, outer); err.Error() != "top 0: get 5: page -1: platelayer: error 8" {
		t.Errorf("wrapped: %q", err.Error())
	}
}

// A fault that holds OK can be made by hand alone; it is a fault like others.
func TestFaultOfOK(t *testing.T) {
	bare := &fault.Fault{Op: "x", At: 2, Err: api.OK}
	err := fault.Wrap("y", 1, bare)
	if err == nil || err.Error() != "y 1: x 2: platelayer: error 0" {
		t.Fatalf("Wrap of a fault of OK: %v", err)
	}
	if fault.Code(err) != api.OK || !slices.Equal(fault.Trail(err), []string{"y", "x"}) {
		t.Errorf("%d, %q", fault.Code(err), fault.Trail(err))
	}
	for _, code := range append([]api.Errno{api.OK}, codes...) {
		if fault.Is(err, code) {
			t.Errorf("Is(%v, %d)", err, code)
		}
	}
}

// Nothing is promised of a fault that wraps nothing, nor of one that isn't
// there, but that no call panics.
func TestNoPanic(t *testing.T) {
	var none *fault.Fault
	for _, f := range []*fault.Fault{none, {Op: "x"}, {Op: "x", Err: none}} {
		_, _, _ = f.Error(), f.Unwrap(), fault.Trail(f)
		_, _ = fault.Place(f, "y")
		if fault.Code(f) != api.OK || fault.Is(f, api.OK) || fault.Is(f, api.ErrArg) {
			t.Errorf("%+v has a code", f)
		}
		_ = fault.Wrap("z", 0, f).Error()
	}
}

// P1.2

func TestOfNoError(t *testing.T) {
	if got := fault.Code(nil); got != api.OK {
		t.Errorf("Code(nil) = %d", got)
	}
	for _, code := range append([]api.Errno{api.OK}, codes...) {
		if fault.Is(nil, code) {
			t.Errorf("Is(nil, %d)", code)
		}
	}
	if got := fault.Trail(nil); len(got) != 0 {
		t.Errorf("Trail(nil) = %q", got)
	}
	if at, ok := fault.Place(nil, ""); at != 0 || ok {
		t.Errorf("Place(nil) = %d, %v", at, ok)
	}
}

func TestOfBareErrno(t *testing.T) {
	for _, code := range append([]api.Errno{api.OK, -1, 12}, codes...) {
		if got := fault.Code(code); got != code {
			t.Errorf("Code(%d) = %d", code, got)
		}
		if got := fault.Is(code, code); got != (code != api.OK) {
			t.Errorf("Is(%d, itself) = %v", code, got)
		}
		if fault.Is(code, code+1) || fault.Is(code, api.OK) {
			t.Errorf("Is(%d, another one)", code)
		}
		if got := fault.Trail(code); len(got) != 0 {
			t.Errorf("Trail(%d) = %q", code, got)
		}
		if at, ok := fault.Place(code, ""); at != 0 || ok {
			t.Errorf("Place(%d) = %d, %v", code, at, ok)
		}
	}
}

func TestIsHoldsOneCodeAlone(t *testing.T) {
	for _, code := range codes {
		for _, err := range []error{code, deep(1, code), deep(5, code)} {
			for _, e := range append([]api.Errno{api.OK, -1, 12}, codes...) {
				if got := fault.Is(err, e); got != (e == code) {
					t.Errorf("Is(%v, %d) = %v", err, e, got)
				}
			}
		}
	}
}

func TestExampleOfTheDocument(t *testing.T) {
	err := fault.Wrap("read", 3, fault.Wrap("page", 7, api.ErrTorn))
	if fault.Code(err) != api.ErrTorn || !slices.Equal(fault.Trail(err), []string{"read", "page"}) {
		t.Errorf("%d, %q", fault.Code(err), fault.Trail(err))
	}
}

func TestTrailTellsEachOp(t *testing.T) {
	err := fault.Wrap("a", 1, fault.Wrap("", 2, fault.Wrap("a", 3, fault.Wrap("b c", 4, api.ErrArg))))
	want := []string{"a", "", "a", "b c"}
	got := fault.Trail(err)
	if !slices.Equal(got, want) {
		t.Fatalf("Trail = %q", got)
	}
	got[0] = "other"
	if again := fault.Trail(err); !slices.Equal(again, want) {
		t.Errorf("a trail that is changed changes the next one: %q", again)
	}
}

func TestPlaceIsTheOutermost(t *testing.T) {
	err := fault.Wrap("a", -1, fault.Wrap("b", 0, fault.Wrap("a", 3, fault.Wrap("", 4, fault.Wrap("b", 5, api.ErrArg)))))
	for _, c := range []struct {
		op string
		at int
		ok bool
	}{
		{"a", -1, true}, {"b", 0, true}, {"", 4, true},
		{"c", 0, false}, {"A", 0, false}, {"ab", 0, false}, {"a ", 0, false},
	} {
		if at, ok := fault.Place(err, c.op); at != c.at || ok != c.ok {
			t.Errorf("Place(%q) = %d, %v", c.op, at, ok)
		}
	}
}

// P1.3

func TestEachWrappingIsOneOpMore(t *testing.T) {
	for _, code := range codes {
		var err error = code
		var want []string
		for i := range 100 {
			op := "op" + strconv.Itoa(i%7)
			err = fault.Wrap(op, -i, err)
			want = append([]string{op}, want...)
			if got := fault.Code(err); got != code {
				t.Fatalf("%d wrappings: code %d, want %d", i+1, got, code)
			}
			if got := fault.Trail(err); !slices.Equal(got, want) {
				t.Fatalf("%d wrappings: trail %q, want %q", i+1, got, want)
			}
			if at, ok := fault.Place(err, op); at != -i || !ok {
				t.Fatalf("%d wrappings: place %d, %v", i+1, at, ok)
			}
		}
	}
}

func TestDeepest(t *testing.T) {
	err := deep(levels, api.ErrZone)
	if fault.Code(err) != api.ErrZone || !fault.Is(err, api.ErrZone) || fault.Is(err, api.ErrArg) {
		t.Errorf("code %d", fault.Code(err))
	}
	trail := fault.Trail(err)
	if len(trail) != levels || trail[0] != "op65535" || trail[levels-1] != "op0" {
		t.Errorf("trail of %d", len(trail))
	}
	if at, ok := fault.Place(err, "op0"); at != 0 || !ok {
		t.Errorf("place %d, %v", at, ok)
	}
	words := err.Error()
	if !strings.HasPrefix(words, "op65535 65535: op65534 65534: ") || !strings.HasSuffix(words, ": op0 0: platelayer: error 5") {
		t.Errorf("words: %q ..", words[:40])
	}
}
