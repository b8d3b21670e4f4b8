// Package stack: what was pushed last is popped first.
package stack

// Stack is of values, or of frames.
type Stack[T any] struct {
	items []T
}

// Push sets no bound: those that there are differ from stack to stack, and are held by who pushes.
func (s *Stack[T]) Push(item T) {
	s.items = append(s.items, item)
}

// Pop is for a stack on which there is something.
func (s *Stack[T]) Pop() T {
	last := len(s.items) - 1
	item := s.items[last]
	s.items = s.items[:last]
	return item
}

// Top is for a stack on which there is something.
func (s *Stack[T]) Top() T {
	return s.items[len(s.items)-1]
}

// Len tells how many there are.
func (s *Stack[T]) Len() int {
	return len(s.items)
}

// List tells them from the bottom on, as a copy: it goes out, and may be written into there. Of none it is nil: nothing tells what was there and is gone.
func (s *Stack[T]) List() []T {
	return append([]T(nil), s.items...)
}
