// Package fault is layer 1: errors that record where they passed, and the codes in them: see shared/doc/01-fault.md.
package fault

import (
	"errors"

	"rowlock/api"
)

// At wraps an error with the place and the slot through which it passed; nil stays nil.
func At(place string, slot int, err error) error {
	if err == nil {
		return nil
	}
	return &api.Fault{Place: place, Slot: slot, Err: err}
}

// Code is the first code that an error contains, or 0.
func Code(err error) (c api.Code) {
	// The methods of an error from elsewhere may panic; such an error has no code.
	defer func() {
		if recover() != nil {
			c = 0
		}
	}()
	if !errors.As(err, &c) {
		return 0
	}
	return c
}

// Is tells whether an error contains a code.
func Is(err error, c api.Code) (is bool) {
	defer func() {
		if recover() != nil {
			is = false
		}
	}()
	return errors.Is(err, c)
}

// Place is the place and the slot of the first fault that an error contains.
func Place(err error) (string, int, bool) {
	f := firstFault(err)
	if f == nil {
		return "", 0, false
	}
	return f.Place, f.Slot, true
}

// firstFault is the first fault in err that is not nil, or nil.
func firstFault(err error) *api.Fault {
	f, found := findFault(err)
	if f != nil || !found {
		return f
	}
	// A nil fault is no fault, but errors.As stops at it: the members of a group behind it are still to be searched.
	for _, e := range members(err) {
		if f := firstFault(e); f != nil {
			return f
		}
	}
	return nil
}

// findFault is what errors.As finds: this may be a nil fault.
func findFault(err error) (f *api.Fault, found bool) {
	defer func() {
		if recover() != nil {
			f, found = nil, false
		}
	}()
	if !errors.As(err, &f) {
		return nil, false
	}
	return f, true
}

// members are the errors of the first error in err that wraps several.
func members(err error) (l []error) {
	defer func() {
		if recover() != nil {
			l = nil
		}
	}()
	var group interface{ Unwrap() []error }
	if !errors.As(err, &group) {
		return nil
	}
	return group.Unwrap()
}

// Trail is the places of the faults with which an error begins.
func Trail(err error) []string {
	var places []string
	for {
		f, _ := findFault(err)
		// errors.As also finds a fault further inside: only if it is err itself does the trail go on.
		if f == nil || error(f) != err {
			return places
		}
		places = append(places, f.Place)
		err = f.Unwrap()
	}
}

// Weight is how heavy a code is: each group of codes weighs one more than the group below it.
func Weight(c api.Code) int {
	n := 0
	switch c {
	case api.ErrKind, api.ErrChain, api.ErrStale:
		n++
		fallthrough
	case api.ErrFull, api.ErrExhausted, api.ErrStep:
		n++
		fallthrough
	case api.ErrBusy, api.ErrState, api.ErrConflict:
		n++
		fallthrough
	case api.ErrNone, api.ErrThere, api.ErrReadOnly:
		n++
		fallthrough
	case api.ErrArg, api.ErrRange, api.ErrLong, api.ErrLine:
		n++
	}
	return n
}

// Worst is the first of the errors whose code is the heaviest, or nil.
func Worst(l ...error) error {
	var worst error
	most := -1 // an error without a code weighs 0, and is still worse than none
	for _, err := range l {
		if err == nil {
			continue
		}
		if n := Weight(Code(err)); n > most {
			worst, most = err, n
		}
	}
	return worst
}
