package check

import "upshift/api"

// effect is what an instruction does to the height of its own frame's stack.
type effect struct {
	pops, pushes int
}

// Of a Call the table leaves out the arguments: how many there are stands in its A.
// What a Return pushes is pushed in another frame.
var effects = [...]effect{
	api.Const:  {0, 1},
	api.Nil:    {0, 1},
	api.Load:   {0, 1},
	api.Store:  {1, 0},
	api.Add:    {2, 1},
	api.Sub:    {2, 1},
	api.Mul:    {2, 1},
	api.Div:    {2, 1},
	api.Less:   {2, 1},
	api.Equal:  {2, 1},
	api.Jump:   {0, 0},
	api.Branch: {1, 0},
	api.Fun:    {0, 1},
	api.Call:   {1, 1},
	api.Return: {1, 0},
	api.New:    {1, 1},
	api.Get:    {2, 1},
	api.Set:    {3, 0},
	api.Len:    {1, 1},
	api.Print:  {1, 0},
	api.Pop:    {1, 0},
	api.Dup:    {1, 2},
}

func known(op int) bool {
	return 0 <= op && op < len(effects)
}

func effectOf(ins api.Ins) effect {
	e := effects[ins.Op]
	if ins.Op == api.Call {
		e.pops += int(ins.A)
	}
	return e
}
