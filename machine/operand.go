package machine

import "upshift/api"

func (k *maker) then(do deed) {
	k.deeds = append(k.deeds, do)
}

func (k *maker) push(value func(m *Machine, f *frame) api.Value) {
	k.then(func(m *Machine, f *frame) { f.values.Push(value(m, f)) })
}

func (k *maker) wait(v operand) {
	k.waiting = append(k.waiting, v)
}

func (k *maker) waitFor(v api.Value) {
	k.wait(func(*frame) api.Value { return v })
}

// pop takes what the low gear would pop: where nothing waits, that is what was pushed.
func (k *maker) pop() operand {
	last := len(k.waiting) - 1
	if last < 0 {
		return func(f *frame) api.Value { return f.values.Pop() }
	}
	v := k.waiting[last]
	k.waiting = k.waiting[:last]
	return v
}

// popTwo reads the one on the right first: if both were pushed, that one is above.
func (k *maker) popTwo() func(f *frame) (a, b api.Value) {
	right, left := k.pop(), k.pop()
	return func(f *frame) (a, b api.Value) {
		b = right(f)
		a = left(f)
		return a, b
	}
}

// settle pushes what waits, ahead of a deed that pushes above it or stores into a local that it may have to read.
func (k *maker) settle() {
	if len(k.waiting) == 0 {
		return
	}
	waiting := k.waiting
	k.waiting = nil
	k.then(func(_ *Machine, f *frame) {
		for _, v := range waiting {
			f.values.Push(v(f))
		}
	})
}

// level lets a frame stand as it would in the low gear, ahead of an instruction that may be trapped or that turns: stack, place and steps.
func (k *maker) level() {
	k.settle()
	ahead := k.seen - k.passed
	if ahead == 0 {
		return
	}
	k.passed = k.seen
	k.then(func(m *Machine, f *frame) { m.pass(f, ahead) })
}

func (k *maker) store(local int) {
	v := k.pop()
	k.settle()
	k.then(func(_ *Machine, f *frame) { f.locals[local] = v(f) })
}

func (k *maker) drop() {
	if len(k.waiting) > 0 {
		k.pop()
		return
	}
	k.then(func(_ *Machine, f *frame) { f.values.Pop() })
}

// dup may let a value wait twice: reading it changes nothing.
func (k *maker) dup() {
	if last := len(k.waiting) - 1; last >= 0 {
		k.wait(k.waiting[last])
		return
	}
	k.push(func(_ *Machine, f *frame) api.Value { return f.values.Top() })
}

func (k *maker) equal() {
	two := k.popTwo()
	k.settle()
	k.push(func(_ *Machine, f *frame) api.Value { return equal(two(f)) })
}

func (k *maker) reckon(rule func(a, b int64) int64) {
	two := k.popTwo()
	k.level()
	k.push(func(_ *Machine, f *frame) api.Value {
		a, b := two(f)
		return reckoned(rule, a, b)
	})
}

func (k *maker) array(op int) {
	switch op {
	case api.New:
		n := k.pop()
		k.level()
		k.push(func(m *Machine, f *frame) api.Value { return m.newArray(n(f)) })
	case api.Len:
		a := k.pop()
		k.level()
		k.push(func(m *Machine, f *frame) api.Value { return m.length(a(f)) })
	case api.Get:
		two := k.popTwo()
		k.level()
		k.push(func(m *Machine, f *frame) api.Value { return *m.cell(two(f)) })
	case api.Set:
		v, two := k.pop(), k.popTwo()
		k.level()
		k.then(func(m *Machine, f *frame) {
			set := v(f)
			*m.cell(two(f)) = set
		})
	}
}
