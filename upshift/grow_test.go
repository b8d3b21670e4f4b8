package upshift

import (
	"math/rand/v2"
	"slices"

	"upshift/api"
)

// grower makes a function in which nothing is wrong: it knows at each instruction the height of the stack, and guesses the kinds on it.
type grower struct {
	r       *rand.Rand
	funcs   []api.Func // of the others only arguments and locals are looked at
	self    int
	code    []api.Ins
	heights []int // at which each instruction is come to
	kinds   []int // on the stack, as far as one can tell
	locals  []int // likewise
	open    []openTurn
}

// openTurn is a Jump or Branch whose target is not settled.
type openTurn struct {
	at, height int
}

// grow makes a program; the same one of the same seed.
func grow(seed uint64) []api.Func {
	r := rand.New(rand.NewPCG(seed, 7))
	program := make([]api.Func, 1+r.IntN(4))
	for fun := range program {
		program[fun].Locals = r.IntN(4)
		if fun > 0 {
			program[fun].Args = r.IntN(program[fun].Locals + 1)
		}
	}
	for fun := range program {
		g := grower{r: r, funcs: program, self: fun, locals: make([]int, program[fun].Locals)}
		for i := range program[fun].Args {
			g.locals[i] = 1 + r.IntN(3)
		}
		program[fun].Code = g.function(4 + r.IntN(36))
	}
	return program
}

func (g *grower) function(length int) []api.Ins {
	for len(g.code) < length {
		if g.r.IntN(3) == 0 {
			g.settle()
		}
		g.any()
	}
	g.settle()
	g.leave()
	for len(g.open) > 0 {
		g.kinds = make([]int, g.open[0].height)
		g.settle()
		g.leave()
	}
	return g.code
}

// settle lets open turns of the height at hand come here.
func (g *grower) settle() {
	g.open = slices.DeleteFunc(g.open, func(o openTurn) bool {
		fits := o.height == len(g.kinds)
		if fits {
			g.code[o.at].A = int64(len(g.code))
		}
		return fits
	})
}

// leave returns: what comes behind it is come to by jumps alone.
func (g *grower) leave() {
	if len(g.kinds) == 0 {
		g.emit(ins(api.Nil), 0, api.IsNil)
	}
	g.emit(ins(api.Return), 1)
}

func (g *grower) emit(i api.Ins, pops int, pushes ...int) {
	g.heights = append(g.heights, len(g.kinds))
	g.code = append(g.code, i)
	g.kinds = append(slices.Clone(g.kinds[:len(g.kinds)-pops]), pushes...)
}

// has tells if the kinds on top are these; now and then it does not look.
func (g *grower) has(kinds ...int) bool {
	below := len(g.kinds) - len(kinds)
	return below >= 0 && (slices.Equal(g.kinds[below:], kinds) || g.r.IntN(60) == 0)
}

func (g *grower) any() {
	switch pick := g.r.IntN(20); {
	case pick < 6:
		g.grows()
	case pick < 11:
		g.reckons()
	case pick < 14:
		g.stores()
	case pick < 16:
		g.cells()
	case pick < 18:
		g.turns()
	default:
		g.calls()
	}
}

func (g *grower) grows() {
	if len(g.kinds) >= api.MaxStack {
		return
	}
	numbers := []int64{0, 1, 1, 2, 2, 3, 3, 5, -1, -7, 1 << 40, least, most, 60, 100}
	switch pick := g.r.IntN(12); {
	case pick < 5:
		g.emit(ins(api.Const, numbers[g.r.IntN(len(numbers))]), 0, api.IsInt)
	case pick < 6:
		g.emit(ins(api.Nil), 0, api.IsNil)
	case pick < 7:
		g.emit(ins(api.Fun, g.r.Int64N(int64(len(g.funcs)))), 0, api.IsFun)
	case pick < 10 && len(g.locals) > 0:
		a := g.r.IntN(len(g.locals))
		g.emit(ins(api.Load, int64(a)), 0, g.locals[a])
	case len(g.kinds) > 0:
		g.emit(ins(api.Dup), 0, g.kinds[len(g.kinds)-1])
	}
}

func (g *grower) reckons() {
	ops := []int{api.Add, api.Sub, api.Mul, api.Less, api.Div}
	switch {
	case g.r.IntN(5) == 0 && len(g.kinds) >= 2:
		g.emit(ins(api.Equal), 2, api.IsInt)
	case g.has(api.IsInt, api.IsInt):
		g.emit(ins(ops[g.r.IntN(len(ops))]), 2, api.IsInt)
	}
}

func (g *grower) stores() {
	if len(g.kinds) == 0 {
		return
	}
	top := g.kinds[len(g.kinds)-1]
	switch pick := g.r.IntN(5); {
	case pick < 1:
		g.emit(ins(api.Pop), 1)
	case pick < 3:
		g.emit(ins(api.Print), 1)
	case len(g.locals) > 0:
		a := g.r.IntN(len(g.locals))
		g.locals[a] = top
		g.emit(ins(api.Store, int64(a)), 1)
	}
}

func (g *grower) cells() {
	if a := slices.Index(g.locals, api.IsArray); a >= 0 && len(g.kinds)+2 < api.MaxStack {
		g.emit(ins(api.Load, int64(a)), 0, api.IsArray)
		g.emit(ins(api.Const, g.r.Int64N(3)), 0, api.IsInt)
		if g.r.IntN(2) == 0 {
			g.grows()
		}
	}
	n := len(g.kinds)
	switch {
	case n >= 3 && g.has(api.IsArray, api.IsInt, g.kinds[n-1]):
		g.emit(ins(api.Set), 3)
	case g.has(api.IsArray, api.IsInt):
		g.emit(ins(api.Get), 2, api.IsNil)
	case g.has(api.IsInt):
		g.emit(ins(api.New), 1, api.IsArray)
	case g.has(api.IsArray):
		g.emit(ins(api.Len), 1, api.IsInt)
	}
}

// turns goes back to an instruction of the same height, or to one that is settled later on.
func (g *grower) turns() {
	op, pops := api.Jump, 0
	if len(g.kinds) > 0 && g.r.IntN(6) > 0 {
		op, pops = api.Branch, 1
	}
	o := openTurn{at: len(g.code), height: len(g.kinds) - pops}
	back := g.sameHeight(o.height)
	switch {
	case len(back) > 0 && g.r.IntN(2) == 0:
		g.emit(ins(op, int64(back[g.r.IntN(len(back))])), pops)
	case len(g.open) < 6:
		g.emit(ins(op), pops)
		g.open = append(g.open, o)
	}
}

func (g *grower) sameHeight(height int) []int {
	var found []int
	for at := range g.code {
		if g.heights[at] == height {
			found = append(found, at)
		}
	}
	return found
}

// calls pushes a function and arguments, mostly as many as it has; seldom one that would call itself in the end.
func (g *grower) calls() {
	f := g.r.IntN(len(g.funcs))
	if f <= g.self && g.r.IntN(4) > 0 {
		return
	}
	count := g.funcs[f].Args
	if g.r.IntN(40) == 0 {
		count = g.r.IntN(4)
	}
	if len(g.kinds)+count+1 > api.MaxStack {
		return
	}
	g.emit(ins(api.Fun, int64(f)), 0, api.IsFun)
	for range count {
		g.emit(ins(api.Const, g.r.Int64N(4)), 0, api.IsInt)
	}
	g.emit(ins(api.Call, int64(count)), count+1, api.IsInt)
}
