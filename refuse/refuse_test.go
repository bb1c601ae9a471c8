package refuse_test

import (
	"errors"
	"testing"

	"forerunner/api"
	"forerunner/refuse"
)

func TestWhatHoldsGoesOn(t *testing.T) {
	done := 0
	code := refuse.Catch(func() {
		done++
		refuse.Unless(true, api.Full)
		done++
	})
	if code != api.OK || done != 2 {
		t.Errorf("code %d, %d steps done", code, done)
	}
}

func TestWhatDoesNotHoldLeavesByItsCode(t *testing.T) {
	for code := api.Arg; code <= api.Malformed; code++ {
		done := 0
		got := refuse.Catch(func() {
			done++
			refuse.Unless(false, code)
			done++
		})
		if got != code || done != 1 {
			t.Errorf("code %d, not %d, %d steps done", got, code, done)
		}
	}
}

func TestTheFirstCodeIsTold(t *testing.T) {
	code := refuse.Catch(func() {
		refuse.Unless(true, api.Arg)
		refuse.Unless(false, api.Busy)
		refuse.Unless(false, api.Full)
	})
	if code != api.Busy {
		t.Errorf("code %d", code)
	}
}

func TestTheInnerOneTakesItsOwnBack(t *testing.T) {
	inner := api.OK
	outer := refuse.Catch(func() {
		inner = refuse.Catch(func() { refuse.Unless(false, api.Range) })
		refuse.Unless(inner == api.OK, api.Failed)
	})
	if inner != api.Range || outer != api.Failed {
		t.Errorf("inner %d, outer %d", inner, outer)
	}
}

// caught is what a call panicked with, if it did.
func caught(do func()) (r any) {
	defer func() { r = recover() }()
	do()
	return nil
}

func TestAFaultIsNotTakenBack(t *testing.T) {
	fault := errors.New("a fault")
	if r := caught(func() { refuse.Catch(func() { panic(fault) }) }); r != fault {
		t.Errorf("an error: %v", r)
	}
	if r := caught(func() { refuse.Catch(func() { panic(int(api.Arg)) }) }); r != int(api.Arg) {
		t.Errorf("a number that is no code: %v", r)
	}
	var none []int
	if r := caught(func() { refuse.Catch(func() { none[0]++ }) }); r == nil {
		t.Errorf("a place that isn't there: it was taken back")
	}
}
