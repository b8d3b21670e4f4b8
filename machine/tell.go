package machine

import (
	"slices"

	"upshift/api"
)

// Outcome tells how the run has ended.
func (m *Machine) Outcome() api.Outcome {
	return api.Outcome{End: m.end, Steps: m.steps, Gives: m.gives, Out: slices.Clone(m.printed)}
}

// State tells how the run stands. Each of its lists is a copy of its own: they may be written into where they go.
func (m *Machine) State() api.State {
	var s api.State
	for _, f := range m.frames.List() {
		s.Frames = append(s.Frames, api.Frame{
			Fun:    f.fun,
			At:     f.at,
			Locals: slices.Clone(f.locals),
			Stack:  f.values.List(),
		})
	}
	for _, array := range m.arrays {
		s.Arrays = append(s.Arrays, slices.Clone(array))
	}
	return s
}

// Counts tells what was done in the high gear, and how often frames changed theirs.
func (m *Machine) Counts() api.Counts {
	return m.counts
}
