package stack

import (
	"slices"
	"testing"
)

func TestLastPushedIsPoppedFirst(t *testing.T) {
	var s Stack[int]
	for n := range 40 {
		s.Push(n)
		if s.Len() != n+1 || s.Top() != n {
			t.Fatalf("behind Push(%d): %d items, top %d", n, s.Len(), s.Top())
		}
	}
	for n := 39; n >= 0; n-- {
		if got := s.Pop(); got != n || s.Len() != n {
			t.Fatalf("Pop = %d with %d items left, want %d with %d", got, s.Len(), n, n)
		}
	}
}

func TestPushBehindPop(t *testing.T) {
	var s Stack[string]
	s.Push("a")
	s.Push("b")
	s.Pop()
	s.Push("c")
	if got := s.List(); !slices.Equal(got, []string{"a", "c"}) {
		t.Errorf("List = %v", got)
	}
}

// What was popped is not to be seen in a list, nor in its spare room; and a list may be written into.
func TestListIsACopy(t *testing.T) {
	var s Stack[int]
	for n := range 9 {
		s.Push(n + 1)
	}
	for range 6 {
		s.Pop()
	}
	list := s.List()
	if !slices.Equal(list, []int{1, 2, 3}) {
		t.Fatalf("List = %v", list)
	}
	for i := range list[:cap(list)] {
		list[:cap(list)][i] = 77
	}
	s.Push(4)
	if got := s.List(); !slices.Equal(got, []int{1, 2, 3, 4}) {
		t.Errorf("behind writing into a list: %v", got)
	}
	if slices.Contains(list, 4) {
		t.Errorf("a list that had come out changed: %v", list)
	}
}

// Whether there ever was something on a stack is not to be seen.
func TestListOfNothing(t *testing.T) {
	var s Stack[*int]
	for range 2 {
		if s.List() != nil || s.Len() != 0 {
			t.Errorf("an empty stack has %v", s.List())
		}
		s.Push(nil)
		s.Pop()
	}
}
