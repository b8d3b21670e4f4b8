package upshift

import (
	"slices"
	"testing"

	"upshift/api"
)

func ins(op int, a ...int64) api.Ins {
	i := api.Ins{Op: op}
	if len(a) > 0 {
		i.A = a[0]
	}
	return i
}

func fn(args, locals int, code ...api.Ins) api.Func {
	return api.Func{Args: args, Locals: locals, Code: code}
}

// plain is a function in which nothing is wrong.
func plain() api.Func { return fn(0, 0, ins(api.Nil), ins(api.Return)) }

// main1 is a program of one function without locals.
func main1(code ...api.Ins) []api.Func { return []api.Func{fn(0, 0, code...)} }

func nils(n int) []api.Ins { return slices.Repeat([]api.Ins{ins(api.Nil)}, n) }

func plains(n int) []api.Func {
	var program []api.Func
	for range n {
		program = append(program, plain())
	}
	return program
}

func num(n int64) api.Value { return api.Value{Kind: api.IsInt, N: n} }

func arr(n int64) api.Value { return api.Value{Kind: api.IsArray, N: n} }

func fun(n int64) api.Value { return api.Value{Kind: api.IsFun, N: n} }

// vals is a list of values; of none an empty one.
func vals(list ...api.Value) []api.Value { return list }

// loaded is the code of a program in which nothing is wrong.
func loaded(t *testing.T, program ...api.Func) *Code {
	t.Helper()
	c, err, fun, at := Load(program)
	if err != api.OK {
		t.Fatalf("Load(%v) = %d, %d, %d", program, err, fun, at)
	}
	return c
}

// sameOutcome: a list without elements may be nil or not.
func sameOutcome(a, b api.Outcome) bool {
	return a.End == b.End && a.Steps == b.Steps && a.Gives == b.Gives && slices.Equal(a.Out, b.Out)
}

func sameFrame(a, b api.Frame) bool {
	return a.Fun == b.Fun && a.At == b.At && slices.Equal(a.Locals, b.Locals) && slices.Equal(a.Stack, b.Stack)
}

func sameState(a, b api.State) bool {
	return slices.EqualFunc(a.Frames, b.Frames, sameFrame) && slices.EqualFunc(a.Arrays, b.Arrays, slices.Equal[[]api.Value])
}

// wantRun holds both gears against an outcome.
func wantRun(t *testing.T, name string, c *Code, fuel int, want api.Outcome) {
	t.Helper()
	wantLow(t, name, c, fuel, want)
	wantHigh(t, name, c, fuel, want)
}

func wantLow(t *testing.T, name string, c *Code, fuel int, want api.Outcome) {
	t.Helper()
	if got := c.Run(fuel); !sameOutcome(got, want) {
		t.Errorf("%s: Run(%d) = %+v, want %+v", name, fuel, got, want)
	}
}

func wantLook(t *testing.T, name string, c *Code, fuel int, want api.State) {
	t.Helper()
	if got := c.Look(fuel); !sameState(got, want) {
		t.Errorf("%s: Look(%d) = %+v, want %+v", name, fuel, got, want)
	}
}

// wantStop holds how a run in both gears stands against a state.
func wantStop(t *testing.T, name string, c *Code, events []api.Event, fuel int, want api.State) {
	t.Helper()
	if got, err := c.Stop(events, fuel); err != api.OK || !sameState(got, want) {
		t.Errorf("%s: Stop(%v, %d) = %+v, %d, want %+v", name, events, fuel, got, err, want)
	}
}

// wantState holds both gears against a state: the low one, the high one alone, and the low one with calls in the high one.
func wantState(t *testing.T, name string, c *Code, fuel int, want api.State) {
	t.Helper()
	wantLook(t, name, c, fuel, want)
	wantStop(t, name, c, compileAll(c.program), fuel, want)
	if len(c.program[0].Code) < api.MaxCode {
		program := headed(c.program)
		wantStop(t, name, loaded(t, program...), wholly(program), fuel, want)
	}
}

// ofValue is the instructions that push a value of each kind; an array is the next new one, of two cells.
func ofValue(v api.Value) []api.Ins {
	switch v.Kind {
	case api.IsInt:
		return []api.Ins{ins(api.Const, v.N)}
	case api.IsArray:
		return []api.Ins{ins(api.Const, 2), ins(api.New)}
	case api.IsFun:
		return []api.Ins{ins(api.Fun, v.N)}
	}
	return nils(1)
}

// pushed is the instructions that push these values, one behind the other.
func pushed(values ...api.Value) []api.Ins {
	var code []api.Ins
	for _, v := range values {
		code = append(code, ofValue(v)...)
	}
	return code
}

func joined(lists ...[]api.Ins) []api.Ins { return slices.Concat(lists...) }
