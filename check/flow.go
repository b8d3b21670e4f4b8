package check

import "upshift/api"

// place is what is known of an instruction while the flow is followed.
type place struct {
	known, looked bool
	height        int // at which it is come to, if that is known
}

// flow follows a function from its instruction 0 on, the least number first: so it is settled which of several faults is told.
func flow(code []api.Ins) (api.Errno, int) {
	places := make([]place, len(code))
	places[0].known = true
	for {
		at, found := leastWaiting(places)
		if !found {
			return api.OK, 0
		}
		if err := look(code, places, at); err != api.OK {
			return err, at
		}
	}
}

// leastWaiting starts at 0 each time: a jump back may have made an earlier one known.
func leastWaiting(places []place) (int, bool) {
	for at, p := range places {
		if p.known && !p.looked {
			return at, true
		}
	}
	return 0, false
}

func look(code []api.Ins, places []place, at int) api.Errno {
	places[at].looked = true
	e := effectOf(code[at])
	if places[at].height < e.pops {
		return api.ErrStack
	}
	height := places[at].height - e.pops + e.pushes
	if height > api.MaxStack {
		return api.ErrStack
	}
	for _, to := range follows(code[at], at) {
		if err := reach(places, to, height); err != api.OK {
			return err
		}
	}
	return api.OK
}

// follows tells where an instruction goes, the one behind it ahead of the one it jumps to.
func follows(ins api.Ins, at int) []int {
	switch ins.Op {
	case api.Return:
		return nil
	case api.Jump:
		return []int{int(ins.A)}
	case api.Branch:
		return []int{at + 1, int(ins.A)}
	}
	return []int{at + 1}
}

func reach(places []place, to, height int) api.Errno {
	if to >= len(places) {
		return api.ErrEnd
	}
	p := &places[to]
	if p.known && p.height != height {
		return api.ErrStack
	}
	p.known, p.height = true, height
	return api.OK
}
