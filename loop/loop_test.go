package loop

import (
	"slices"
	"testing"

	"upshift/api"
)

func ins(op int, a int64) api.Ins { return api.Ins{Op: op, A: a} }

func TestHeads(t *testing.T) {
	null := ins(api.Nil, 0)
	for _, c := range []struct {
		name string
		code []api.Ins
		want []int
	}{
		{"no turn", []api.Ins{null, ins(api.Return, 0)}, nil},
		{"Jump to itself", []api.Ins{ins(api.Jump, 0)}, []int{0}},
		{"Branch to itself", []api.Ins{null, ins(api.Branch, 1)}, []int{1}},
		{"Jump back by one", []api.Ins{null, null, ins(api.Jump, 1)}, []int{1}},
		{"Branch back", []api.Ins{null, ins(api.Branch, 0)}, []int{0}},
		{"turns to the one behind", []api.Ins{ins(api.Jump, 1), ins(api.Branch, 2), null}, nil},
		{"turns far behind", []api.Ins{ins(api.Jump, 3), ins(api.Branch, 3), null, null}, nil},
		{"one head of several turns", []api.Ins{null, ins(api.Jump, 0), ins(api.Branch, 0), ins(api.Jump, 0)}, []int{0}},
		{"turns from both sides", []api.Ins{ins(api.Jump, 1), ins(api.Jump, 1)}, []int{1}},
		{"rising, found falling", []api.Ins{null, null, ins(api.Jump, 2), ins(api.Jump, 1), ins(api.Jump, 0)}, []int{0, 1, 2}},
		{"what A of others looks like", []api.Ins{null, ins(api.Const, 0), ins(api.Load, 1), ins(api.Call, 0), ins(api.Fun, 0), ins(api.Const, -1), ins(api.Return, 2)}, nil},
	} {
		if got := Heads(c.code); !slices.Equal(got, c.want) {
			t.Errorf("%s: Heads = %v, want %v", c.name, got, c.want)
		}
	}
}

// Every instruction of the longest function may be a head.
func TestHeadsOfTheLongestFunction(t *testing.T) {
	var code []api.Ins
	var want []int
	for at := range api.MaxCode {
		code = append(code, ins(api.Jump, int64(at)))
		want = append(want, at)
	}
	if got := Heads(code); !slices.Equal(got, want) {
		t.Errorf("Heads = %v", got)
	}
	code[0].A = api.MaxCode - 1
	if got := Heads(code); !slices.Equal(got, want[1:]) {
		t.Errorf("Heads = %v", got)
	}
}
