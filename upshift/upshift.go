// Package upshift: a stack machine with two gears: see DOC.md.
package upshift

import (
	"slices"

	"upshift/api"
	"upshift/check"
	"upshift/loop"
	"upshift/machine"
)

// Code is a program in which nothing is wrong.
type Code struct {
	program []api.Func
}

// Load looks at a program (P3).
func Load(program []api.Func) (*Code, api.Errno, int, int) {
	if err, fun, at := check.Program(program); err != api.OK {
		return nil, err, fun, at
	}
	return &Code{program: copied(program)}, api.OK, 0, 0
}

// copied goes down to the instructions: the caller may write into its lists later on.
func copied(program []api.Func) []api.Func {
	own := slices.Clone(program)
	for fun := range own {
		own[fun].Code = slices.Clone(own[fun].Code)
	}
	return own
}

// Headers tells the heads of a function's loops (P4).
func (c *Code) Headers(fun int) []int {
	if fun < 0 || fun >= len(c.program) {
		return nil
	}
	return loop.Heads(c.program[fun].Code)
}

// Run runs a program in the low gear (P5).
func (c *Code) Run(fuel int) api.Outcome {
	return machine.Run(c.program, fuel).Outcome()
}

// Look tells how a run stands (P6).
func (c *Code) Look(fuel int) api.State {
	return machine.Run(c.program, fuel).State()
}

// Shift runs a program in both gears (P7).
func (c *Code) Shift(events []api.Event, fuel int) (api.Outcome, api.Counts, api.Errno) {
	if err := check.Events(events, len(c.program)); err != api.OK {
		return api.Outcome{}, api.Counts{}, err
	}
	m := machine.Shift(c.program, events, fuel)
	return m.Outcome(), m.Counts(), api.OK
}

// Stop tells how such a run stands (P8).
func (c *Code) Stop(events []api.Event, fuel int) (api.State, api.Errno) {
	if err := check.Events(events, len(c.program)); err != api.OK {
		return api.State{}, err
	}
	return machine.Shift(c.program, events, fuel).State(), api.OK
}
