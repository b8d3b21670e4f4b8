// Package check tells what is wrong with a program, and where; and whether events may be.
package check

import "upshift/api"

// Program tells the first thing that is wrong with a program: an error, a function and an instruction.
func Program(program []api.Func) (api.Errno, int, int) {
	if !within(len(program), 1, api.MaxFuncs) {
		return api.ErrSize, 0, 0
	}
	for fun := range program {
		if err, at := function(program, fun); err != api.OK {
			return err, fun, at
		}
	}
	return api.OK, 0, 0
}

// function goes from the sizes to the instructions to the flow: each of them may trust what the ones ahead of it found.
func function(program []api.Func, fun int) (api.Errno, int) {
	f := program[fun]
	if !sizesFit(f) || fun == 0 && f.Args != 0 {
		return api.ErrSize, 0
	}
	for at, ins := range f.Code {
		if !known(ins.Op) || !operandFits(ins, f, len(program)) {
			return api.ErrOp, at
		}
	}
	return flow(f.Code)
}

func sizesFit(f api.Func) bool {
	return within(f.Locals, 0, api.MaxLocals) &&
		within(f.Args, 0, f.Locals) &&
		within(len(f.Code), 1, api.MaxCode)
}

func operandFits(ins api.Ins, f api.Func, funcs int) bool {
	switch ins.Op {
	case api.Load, api.Store:
		return indexes(ins.A, f.Locals)
	case api.Jump, api.Branch:
		return indexes(ins.A, len(f.Code))
	case api.Fun:
		return indexes(ins.A, funcs)
	case api.Call:
		return indexes(ins.A, api.MaxLocals+1)
	}
	return true
}

func within(n, least, most int) bool {
	return least <= n && n <= most
}

// indexes compares at 64 bits: an A cut to an int first could come to fit.
func indexes(a int64, length int) bool {
	return 0 <= a && a < int64(length)
}
