package check

import (
	"math"
	"slices"
	"testing"

	"upshift/api"
)

func TestEvents(t *testing.T) {
	exit := func(step int) api.Event { return api.Event{Step: step, Kind: api.Exit} }
	compile := func(n int) api.Event { return api.Event{Kind: api.Compile, N: n} }
	drop := func(n int) api.Event { return api.Event{Kind: api.Drop, N: n} }
	for k, c := range []struct {
		events []api.Event
		want   api.Errno
	}{
		{nil, api.OK},
		{[]api.Event{}, api.OK},
		{slices.Repeat([]api.Event{exit(3)}, 200), api.OK},
		{slices.Repeat([]api.Event{exit(3)}, 201), api.ErrEvent},
		{[]api.Event{exit(0), exit(0), exit(1), exit(1), exit(math.MaxInt)}, api.OK},
		{[]api.Event{exit(-1)}, api.ErrEvent},
		{[]api.Event{exit(math.MinInt)}, api.ErrEvent},
		{[]api.Event{exit(2), exit(1)}, api.ErrEvent},
		{[]api.Event{exit(2), exit(3), exit(2)}, api.ErrEvent},
		{[]api.Event{exit(2), exit(0)}, api.ErrEvent},
		{[]api.Event{exit(2), exit(-1)}, api.ErrEvent},
		{[]api.Event{{Kind: 0}}, api.ErrEvent},
		{[]api.Event{{Kind: 5}}, api.ErrEvent},
		{[]api.Event{{Kind: -1}}, api.ErrEvent},
		{[]api.Event{{Kind: math.MaxInt}}, api.ErrEvent},
		{[]api.Event{compile(0), drop(0), compile(2), drop(2)}, api.OK},
		{[]api.Event{compile(3)}, api.ErrEvent},
		{[]api.Event{drop(3)}, api.ErrEvent},
		{[]api.Event{compile(-1)}, api.ErrEvent},
		{[]api.Event{drop(-1)}, api.ErrEvent},
		{[]api.Event{compile(math.MaxInt)}, api.ErrEvent},
		{[]api.Event{drop(math.MinInt)}, api.ErrEvent},
		{[]api.Event{{Kind: api.Enter, N: 3}, {Kind: api.Exit, N: -1}, {Kind: api.Enter, N: math.MinInt}, {Kind: api.Exit, N: math.MaxInt}}, api.OK},
		{append(slices.Repeat([]api.Event{exit(3)}, 199), api.Event{Step: 3, Kind: 5}), api.ErrEvent},
	} {
		if got := Events(c.events, 3); got != c.want {
			t.Errorf("line %d: Events(%v) = %d, want %d", k, c.events, got, c.want)
		}
	}
}
