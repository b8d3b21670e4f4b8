package upshift

import (
	"slices"

	"upshift/api"
)

func ins(op int, a ...int64) api.Ins {
	i := api.Ins{Op: op}
	if len(a) > 0 {
		i.A = a[0]
	}
	return i
}

func fn(args, locals int, code ...api.Ins) api.Func {
	return api.Func{Args: args, Locals: locals, Code: code}
}

// plain is a function in which nothing is wrong.
func plain() api.Func { return fn(0, 0, ins(api.Nil), ins(api.Return)) }

// main1 is a program of one function without locals.
func main1(code ...api.Ins) []api.Func { return []api.Func{fn(0, 0, code...)} }

func nils(n int) []api.Ins { return slices.Repeat([]api.Ins{ins(api.Nil)}, n) }

func plains(n int) []api.Func {
	var program []api.Func
	for range n {
		program = append(program, plain())
	}
	return program
}
