package check

import "upshift/api"

// Events looks at a list of events for a program of so many functions.
func Events(events []api.Event, functions int) api.Errno {
	if len(events) > api.MaxEvents {
		return api.ErrEvent
	}
	earliest := 0
	for _, e := range events {
		if e.Step < earliest || !mayBe(e, functions) {
			return api.ErrEvent
		}
		earliest = e.Step
	}
	return api.OK
}

// mayBe asks for the function only where it matters.
func mayBe(e api.Event, functions int) bool {
	switch e.Kind {
	case api.Compile, api.Drop:
		return within(e.N, 0, functions-1)
	case api.Enter, api.Exit:
		return true
	}
	return false
}
