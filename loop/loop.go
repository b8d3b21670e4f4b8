// Package loop tells where the loops of a function are.
package loop

import "upshift/api"

// Heads tells the heads of a function's loops, rising. Which way the code is gone through does not matter: a head may be one that nothing comes to.
func Heads(code []api.Ins) []int {
	marked := make([]bool, len(code))
	for at, ins := range code {
		if turns(ins.Op) && ins.A <= int64(at) {
			marked[ins.A] = true
		}
	}
	var heads []int
	for at := range marked {
		if marked[at] {
			heads = append(heads, at)
		}
	}
	return heads
}

func turns(op int) bool {
	return op == api.Jump || op == api.Branch
}
