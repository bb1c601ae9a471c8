// Package refuse is how layers refuse: what may not be leaves by a panic of its code, and the call that was asked takes it back.
package refuse

import "forerunner/api"

// Unless leaves by a panic of the code, where what must hold doesn't.
func Unless(holds bool, code api.Code) {
	if !holds {
		panic(code)
	}
}

// Catch does what it is handed, and is OK, or the code by which that left.
func Catch(do func()) (code api.Code) {
	defer func() {
		switch r := recover().(type) {
		case nil:
		case api.Code:
			code = r
		default:
			// A fault in the program is to be seen, not hidden behind a code.
			panic(r)
		}
	}()
	do()
	return api.OK
}
