package check

import (
	"testing"

	"upshift/api"
)

// alphabet: instructions that push, pop, end and turn, enough to make every shape of flow.
func alphabet(length int) []api.Ins {
	list := []api.Ins{{Op: api.Nil}, {Op: api.Pop}, {Op: api.Dup}, {Op: api.Add}, {Op: api.Return}}
	for a := range int64(length) {
		list = append(list, api.Ins{Op: api.Jump, A: a}, api.Ins{Op: api.Branch, A: a})
	}
	return list
}

// walker follows every way through a function by its pairs of instruction and height, without an order.
type walker struct {
	code []api.Ins
	seen map[[2]int]int
	bad  bool
}

func (w *walker) walk(at, height int) {
	if w.bad || w.seen[[2]int{at, height}] > 0 {
		return
	}
	if at >= len(w.code) || height > api.MaxStack {
		w.bad = true
		return
	}
	w.seen[[2]int{at, height}]++
	needs := map[int]int{api.Pop: 1, api.Dup: 1, api.Add: 2, api.Return: 1, api.Branch: 1}
	change := map[int]int{api.Nil: 1, api.Pop: -1, api.Dup: 1, api.Add: -1, api.Branch: -1}
	ins := w.code[at]
	if height < needs[ins.Op] {
		w.bad = true
		return
	}
	height += change[ins.Op]
	if ins.Op != api.Return && ins.Op != api.Jump {
		w.walk(at+1, height)
	}
	if ins.Op == api.Jump || ins.Op == api.Branch {
		w.walk(int(ins.A), height)
	}
}

// fine: no way leads to a fault, and each instruction is come to at one height only.
func fine(code []api.Ins) bool {
	w := walker{code: code, seen: map[[2]int]int{}}
	w.walk(0, 0)
	at := map[int]int{}
	for pair := range w.seen {
		at[pair[0]]++
	}
	for _, heights := range at {
		if heights > 1 {
			return false
		}
	}
	return !w.bad
}

// each calls what for every list of so many instructions of the alphabet.
func each(length int, what func(code []api.Ins)) {
	letters := alphabet(length)
	code := make([]api.Ins, length)
	var fill func(at int)
	fill = func(at int) {
		if at == length {
			what(code)
			return
		}
		for _, letter := range letters {
			code[at] = letter
			fill(at + 1)
		}
	}
	fill(0)
}

// P3: of all short functions just those are right whose ways are all right.
func TestProgramOfAllShortFunctions(t *testing.T) {
	right := 0
	for length := 1; length <= 4; length++ {
		each(length, func(code []api.Ins) {
			err, fun, at := Program([]api.Func{{Code: code}})
			if (err == api.OK) != fine(code) {
				t.Fatalf("%v: Program = %d, %d, %d", code, err, fun, at)
			}
			if err == api.ErrEnd && at != length-1 {
				t.Fatalf("%v: ErrEnd at %d, which is not the last one", code, at)
			}
			if err == api.OK {
				right++
			}
		})
	}
	if right == 0 {
		t.Error("no short function is right")
	}
}
