package fault_test

import (
	"errors"
	"slices"
	"strings"
	"testing"

	"rowlock/api"
	"rowlock/fault"
)

// wrapped wraps one error, and is no fault.
type wrapped struct{ inside error }

func (w wrapped) Error() string { return "wrapped" }
func (w wrapped) Unwrap() error { return w.inside }

// several wraps a list of errors; as a slice it can't be compared.
type several []error

func (s several) Error() string   { return "several" }
func (s several) Unwrap() []error { return s }

// wild panics as soon as it is asked for what it wraps.
type wild struct{}

func (wild) Error() string { return "wild" }
func (wild) Unwrap() error { panic("wild") }

// fickle wraps a nil fault the first time it is asked, and panics from then on.
type fickle struct{ asked int }

func (f *fickle) Error() string { return "fickle" }
func (f *fickle) Unwrap() []error {
	f.asked++
	if f.asked > 1 {
		panic("fickle")
	}
	return []error{nilFault}
}

// matching says of itself that it is ErrBusy, and gives ErrState.
type matching struct{}

func (matching) Error() string          { return "matching" }
func (matching) Is(target error) bool   { return target == error(api.ErrBusy) }
func (matching) As(target any) (_ bool) { return give(target, api.ErrState) }

func give(target any, c api.Code) bool {
	p, ok := target.(*api.Code)
	if ok {
		*p = c
	}
	return ok
}

// shy writes to what it is asked for, and yet says that it has none.
type shy struct{}

func (shy) Error() string { return "shy" }
func (shy) As(target any) bool {
	give(target, api.ErrFull)
	return false
}

func codes() []api.Code {
	var l []api.Code
	for c := api.ErrArg; c <= api.ErrStep; c++ {
		l = append(l, c)
	}
	return l
}

var (
	other    = errors.New("other")
	nilFault = error((*api.Fault)(nil))
)

func deep(n int, err error) error {
	for range n {
		err = fault.At("p", 1, err)
	}
	return err
}

// P1.1, At.

func TestAtOfNilIsNil(t *testing.T) {
	if err := fault.At("place", 1, nil); err != nil {
		t.Errorf("At of nil: %v", err)
	}
}

func TestAtIsAFaultWithItsFields(t *testing.T) {
	for _, c := range []struct {
		place string
		slot  int
		err   error
	}{
		{"tree", 3, api.ErrFull},
		{"", 0, other},
		{"two words: x", -1 << 63, api.Code(0)},
		{"\xff", 1<<63 - 1, fault.At("in", 2, api.ErrArg)},
		{"nil fault", 5, nilFault},
	} {
		f, ok := fault.At(c.place, c.slot, c.err).(*api.Fault)
		if !ok || f == nil {
			t.Fatalf("At(%q): no fault", c.place)
		}
		if f.Place != c.place || f.Slot != c.slot || f.Err != c.err {
			t.Errorf("At(%q, %d, %v) has %q, %d, %v", c.place, c.slot, c.err, f.Place, f.Slot, f.Err)
		}
	}
}

func TestAtMakesANewFaultEachTime(t *testing.T) {
	a, b := fault.At("a", 1, api.ErrFull), fault.At("a", 1, api.ErrFull)
	if a == b {
		t.Error("two calls of At gave the same fault")
	}
}

// P1.1, Code.

func TestCode(t *testing.T) {
	for _, c := range []struct {
		name string
		err  error
		want api.Code
	}{
		{"nil", nil, 0},
		{"no code", other, 0},
		{"a code", api.ErrLine, api.ErrLine},
		{"wrapped by a fault", fault.At("a", 1, api.ErrNone), api.ErrNone},
		{"wrapped by another", wrapped{fault.At("a", 1, wrapped{api.ErrThere})}, api.ErrThere},
		{"wraps nil", wrapped{nil}, 0},
		{"a fault without a code", fault.At("a", 1, other), 0},
		{"a fault of nil", &api.Fault{Place: "a"}, 0},
		{"nil fault", nilFault, 0},
		{"fault of a nil fault", fault.At("a", 1, nilFault), 0},
		{"several", errors.Join(other, api.ErrFull, api.ErrNone), api.ErrFull},
		{"several, in depth first", several{wrapped{several{other, api.ErrKind}}, api.ErrArg}, api.ErrKind},
		{"several with nil in it", several{nil, nilFault, nil, api.ErrLong}, api.ErrLong},
		{"several without a code", several{other, nil}, 0},
		{"several of nothing", several(nil), 0},
		{"zero code", api.Code(0), 0},
		{"code below 1", fault.At("a", 1, api.Code(-7)), -7},
		{"code above 16", fault.At("a", 1, api.Code(17)), 17},
		{"found by an As method", wrapped{matching{}}, api.ErrState},
		{"an As method that says no", shy{}, 0},
		{"wild", fault.At("a", 1, wild{}), 0},
	} {
		if got := fault.Code(c.err); got != c.want {
			t.Errorf("%s: Code is %d, not %d", c.name, got, c.want)
		}
	}
}

// P1.1, Is.

func TestIs(t *testing.T) {
	for _, c := range []struct {
		name string
		err  error
		code api.Code
		want bool
	}{
		{"nil", nil, api.ErrArg, false},
		{"nil and zero", nil, 0, false},
		{"the code itself", api.ErrArg, api.ErrArg, true},
		{"another code", api.ErrArg, api.ErrRange, false},
		{"no code", other, api.ErrArg, false},
		{"no code and zero", other, 0, false},
		{"in a fault", fault.At("a", 1, api.ErrBusy), api.ErrBusy, true},
		{"not in a fault", fault.At("a", 1, api.ErrBusy), api.ErrState, false},
		{"in a wrapper", wrapped{fault.At("a", 1, api.ErrBusy)}, api.ErrBusy, true},
		{"first of several", errors.Join(api.ErrFull, other, api.ErrNone), api.ErrFull, true},
		{"last of several", errors.Join(api.ErrFull, other, api.ErrNone), api.ErrNone, true},
		{"none of several", errors.Join(api.ErrFull, other, api.ErrNone), api.ErrThere, false},
		{"several that can't be compared", several{several{nil}, fault.At("a", 1, api.ErrThere)}, api.ErrThere, true},
		{"nil fault", nilFault, api.ErrArg, false},
		{"zero code", fault.At("a", 1, api.Code(0)), 0, true},
		{"code below 1", fault.At("a", 1, api.Code(-7)), -7, true},
		{"code above 16", fault.At("a", 1, api.Code(17)), 17, true},
		{"another code above 16", fault.At("a", 1, api.Code(17)), 18, false},
		{"matched by an Is method", wrapped{matching{}}, api.ErrBusy, true},
		{"wild", fault.At("a", 1, wild{}), api.ErrArg, false},
	} {
		if got := fault.Is(c.err, c.code); got != c.want {
			t.Errorf("%s: Is(%d) is %v", c.name, c.code, got)
		}
	}
}

// P1.1, Place.

func TestPlace(t *testing.T) {
	f := fault.At("x", 7, fault.At("y", 8, api.ErrFull))
	for _, c := range []struct {
		name  string
		err   error
		place string
		slot  int
		ok    bool
	}{
		{"nil", nil, "", 0, false},
		{"no fault", api.ErrArg, "", 0, false},
		{"wraps no fault", wrapped{other}, "", 0, false},
		{"a fault", f, "x", 7, true},
		{"a fault in a wrapper", wrapped{wrapped{f}}, "x", 7, true},
		{"a fault of nil", &api.Fault{Place: "z", Slot: -4}, "z", -4, true},
		{"the zero fault", &api.Fault{}, "", 0, true},
		{"first of several", errors.Join(other, f, fault.At("later", 1, other)), "x", 7, true},
		{"several, in depth first", several{wrapped{several{other, f}}, fault.At("later", 1, other)}, "x", 7, true},
		{"several with nil in it", several{nil, f}, "x", 7, true},
		{"several without a fault", several{nil, other, api.ErrArg}, "", 0, false},
		{"nil fault", nilFault, "", 0, false},
		{"wrapped nil fault", wrapped{nilFault}, "", 0, false},
		{"fault of a nil fault", fault.At("z", 2, nilFault), "z", 2, true},
		{"nil fault ahead of a fault", several{nilFault, f}, "x", 7, true},
		{"nil faults in depth ahead of a fault", wrapped{several{several{nilFault, wrapped{nilFault}}, nil, wrapped{f}}}, "x", 7, true},
		{"several nil faults", several{nilFault, several{nilFault}}, "", 0, false},
		{"wild", wild{}, "", 0, false},
		{"a fault of what is wild", fault.At("z", 2, wild{}), "z", 2, true},
		{"what is wild later", &fickle{}, "", 0, false},
	} {
		place, slot, ok := fault.Place(c.err)
		if place != c.place || slot != c.slot || ok != c.ok {
			t.Errorf("%s: Place is %q, %d, %v", c.name, place, slot, ok)
		}
	}
}

// P1.1, Trail.

func TestTrail(t *testing.T) {
	f := fault.At("x", 7, fault.At("", 8, fault.At("x", 9, api.ErrFull)))
	for _, c := range []struct {
		name string
		err  error
		want []string
	}{
		{"nil", nil, nil},
		{"a code", api.ErrFull, nil},
		{"no fault", other, nil},
		{"one fault", fault.At("a", 1, other), []string{"a"}},
		{"outermost first, empty and equal places too", f, []string{"x", "", "x"}},
		{"a fault of nil", &api.Fault{Place: "a"}, []string{"a"}},
		{"a wrapper ahead of faults", wrapped{f}, nil},
		{"a wrapper between faults", fault.At("a", 1, wrapped{f}), []string{"a"}},
		{"several", errors.Join(f), nil},
		{"several between faults", fault.At("a", 1, fault.At("b", 2, several{f, f})), []string{"a", "b"}},
		{"nil fault", nilFault, nil},
		{"ends with a nil fault", fault.At("a", 1, nilFault), []string{"a"}},
		{"wild", wild{}, nil},
		{"ends with what is wild", fault.At("a", 1, wild{}), []string{"a"}},
	} {
		if got := fault.Trail(c.err); !slices.Equal(got, c.want) {
			t.Errorf("%s: Trail is %q", c.name, got)
		}
	}
}

func TestTrailIsNewMemory(t *testing.T) {
	f := fault.At("a", 1, fault.At("b", 2, api.ErrFull))
	l := fault.Trail(f)
	l[0], l[1] = "changed", "changed"
	if got := fault.Trail(f); !slices.Equal(got, []string{"a", "b"}) {
		t.Errorf("Trail is %q after its result was changed", got)
	}
}

// P1.2, Weight.

func TestWeight(t *testing.T) {
	want := map[api.Code]int{
		api.ErrArg: 1, api.ErrRange: 1, api.ErrLong: 1, api.ErrLine: 1,
		api.ErrNone: 2, api.ErrThere: 2, api.ErrReadOnly: 2,
		api.ErrBusy: 3, api.ErrState: 3, api.ErrConflict: 3,
		api.ErrFull: 4, api.ErrExhausted: 4, api.ErrStep: 4,
		api.ErrKind: 5, api.ErrChain: 5, api.ErrStale: 5,
	}
	if len(want) != len(codes()) {
		t.Fatal("not every code is tested")
	}
	for c, n := range want {
		if got := fault.Weight(c); got != n {
			t.Errorf("Weight(%v) is %d, not %d", c, got, n)
		}
	}
	for _, c := range []api.Code{0, -1, 17, 18, 1 << 40, -1 << 63, 1<<63 - 1} {
		if got := fault.Weight(c); got != 0 {
			t.Errorf("Weight(%d) is %d", c, got)
		}
	}
}

// P1.2, Worst.

func TestWorst(t *testing.T) {
	full, step := fault.At("a", 1, api.ErrFull), fault.At("b", 2, api.ErrStep)
	high := fault.At("c", 3, api.Code(17))
	group := &wrapped{errors.Join(other, api.ErrStale)}
	for _, c := range []struct {
		name string
		l    []error
		want error
	}{
		{"no elements", nil, nil},
		{"an empty list", []error{}, nil},
		{"nil alone", []error{nil, nil}, nil},
		{"one", []error{full}, full},
		{"nil elements are passed over", []error{nil, api.ErrArg, nil}, api.ErrArg},
		{"the heaviest last", []error{api.ErrArg, api.ErrNone, api.ErrBusy, full, api.ErrKind}, api.ErrKind},
		{"the heaviest first", []error{api.ErrKind, full, api.ErrBusy, api.ErrNone, api.ErrArg}, api.ErrKind},
		{"the first of equal weight", []error{api.ErrArg, full, step, api.ErrFull}, full},
		{"the first of equal weight, turned", []error{api.ErrArg, step, full}, step},
		{"an error without a code", []error{nil, other}, other},
		{"without codes, the first", []error{high, other, api.Code(0)}, high},
		{"an error without a code ahead of a code", []error{other, high, api.ErrArg}, api.ErrArg},
		{"what is no code weighs 0", []error{api.Code(1 << 40), api.Code(-1), api.ErrLine}, api.ErrLine},
		{"the first code of several counts", []error{errors.Join(api.ErrArg, api.ErrStale), api.ErrNone}, api.ErrNone},
		{"a code in several", []error{full, group, api.ErrKind}, group},
		{"a nil fault", []error{nil, nilFault}, nilFault},
		{"a nil fault and a code", []error{nilFault, api.ErrArg}, api.ErrArg},
		{"what is wild", []error{wild{}, api.ErrArg, wild{}}, api.ErrArg},
		{"what is wild alone", []error{nil, wild{}}, wild{}},
	} {
		if got := fault.Worst(c.l...); got != c.want {
			t.Errorf("%s: Worst is %v, not %v", c.name, got, c.want)
		}
	}
}

func TestWorstLeavesItsListAlone(t *testing.T) {
	all := []error{api.ErrArg, nil, api.ErrStale, other, other}
	was := slices.Clone(all)
	fault.Worst(all[:3]...)
	if !slices.Equal(all, was) {
		t.Errorf("Worst changed its list: %v", all)
	}
}

// P1.3.

func TestCodeIsFoundAfterManyWraps(t *testing.T) {
	for _, c := range codes() {
		for _, n := range []int{0, 1, 2, 100} {
			err := deep(n, c)
			if fault.Code(err) != c || !fault.Is(err, c) {
				t.Errorf("%v is not found after %d wraps", c, n)
			}
			if !strings.HasSuffix(err.Error(), c.Error()) {
				t.Errorf("the text after %d wraps is %q", n, err.Error())
			}
		}
	}
}

func TestDeepErrors(t *testing.T) {
	const levels = 1 << 16
	err := deep(levels, api.ErrStep)
	if fault.Code(err) != api.ErrStep || !fault.Is(err, api.ErrStep) || fault.Worst(api.ErrBusy, err) != err {
		t.Error("the code of a deep error is not found")
	}
	if n := len(fault.Trail(err)); n != levels {
		t.Errorf("the trail of a deep error has %d places", n)
	}
	var group error = several{api.ErrKind}
	for range levels {
		group = several{group}
	}
	if fault.Code(group) != api.ErrKind || !fault.Is(group, api.ErrKind) {
		t.Error("the code in deep groups is not found")
	}
}

// P1.4.

func TestNoElementIsWorseThanWorst(t *testing.T) {
	all := []error{nil, other, nilFault, api.Code(17), fault.At("a", 1, api.ErrLong)}
	for _, c := range codes() {
		all = append(all, c)
	}
	for _, a := range all {
		for _, b := range all {
			for _, c := range all {
				l := []error{a, b, c}
				worst := fault.Worst(l...)
				for _, err := range l {
					if err != nil && worst == nil || fault.Weight(fault.Code(err)) > fault.Weight(fault.Code(worst)) {
						t.Fatalf("Worst of %v is %v", l, worst)
					}
				}
			}
		}
	}
}

// Example 1.

func TestExample1(t *testing.T) {
	err := fault.At("tree", 3, fault.At("arena", 7, api.ErrFull))
	if err.Error() != "tree: arena: full" {
		t.Errorf("the text is %q", err.Error())
	}
	if fault.Code(err) != api.ErrFull {
		t.Errorf("the code is %v", fault.Code(err))
	}
	if l := fault.Trail(err); !slices.Equal(l, []string{"tree", "arena"}) {
		t.Errorf("the trail is %q", l)
	}
}
