package upshift

import (
	"math"
	"slices"
	"testing"

	"upshift/api"
)

func countdown() api.Func {
	return fn(0, 1,
		ins(api.Const, 3), ins(api.Store), ins(api.Load), ins(api.Branch, 9), ins(api.Load), ins(api.Const, 1),
		ins(api.Sub), ins(api.Store), ins(api.Jump, 2), ins(api.Nil), ins(api.Return))
}

// P4: the heads of the function that is asked for, rising, also those which nothing comes to.
func TestHeaders(t *testing.T) {
	c := loaded(t,
		fn(0, 0, ins(api.Const, 1), ins(api.Branch, 0), ins(api.Nil), ins(api.Return)),
		countdown(),
		plain(),
		fn(0, 0, ins(api.Nil), ins(api.Return), ins(api.Jump, 3), ins(api.Branch, 3), ins(api.Jump, 2), ins(api.Jump, 5)),
		fn(0, 0, ins(api.Nil), ins(api.Branch, 2), ins(api.Nil), ins(api.Return)),
		fn(0, 0, ins(api.Jump, 0)),
	)
	for fun, want := range [][]int{{0}, {2}, nil, {2, 3, 5}, nil, {0}} {
		if got := c.Headers(fun); !slices.Equal(got, want) {
			t.Errorf("Headers(%d) = %v, want %v", fun, got, want)
		}
	}
}

// P4: of a function that there is not none.
func TestHeadersOfNoFunction(t *testing.T) {
	program := slices.Repeat([]api.Func{fn(0, 0, ins(api.Jump, 0))}, api.MaxFuncs)
	for count := 1; count <= api.MaxFuncs; count++ {
		c := loaded(t, program[:count]...)
		for _, fun := range []int{math.MinInt, -1, count, api.MaxFuncs, 64, math.MaxInt} {
			if got := c.Headers(fun); len(got) != 0 {
				t.Errorf("Headers(%d) of %d functions = %v", fun, count, got)
			}
		}
		if got := c.Headers(count - 1); !slices.Equal(got, []int{0}) {
			t.Errorf("Headers(%d) of %d functions = %v", count-1, count, got)
		}
	}
}
