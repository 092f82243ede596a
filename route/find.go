package route

import (
	"slices"

	"railplan/api"
	"railplan/layout"
)

// Find returns all valid routes without overlap that start with the step from and end in section to, in the order in which the search of promise 7.4 finds them, and the number of units that the search uses.
func Find(l api.Layout, from api.Step, to, budget int) ([]api.Route, int, api.Errno) {
	switch {
	case layout.Check(l) != api.OK:
		return nil, 0, api.ErrArg
	case !layout.Has(l, from), to < 0, to >= len(l.Sections), budget < 1, budget > api.MaxBudget:
		return nil, 0, api.ErrRange
	}
	// The first step uses the first unit, which every budget has.
	s := search{layout: l, to: to, budget: budget, units: 1, steps: []api.Step{from}, hops: make(map[api.Step][]api.Hop)}
	switch {
	case !s.extend():
		return nil, 0, api.ErrBudget
	case len(s.routes) == 0:
		return nil, 0, api.ErrNone
	}
	return s.routes, s.units, api.OK
}

// search is the state of one call of Find.
type search struct {
	layout api.Layout
	to     int
	budget int
	units  int                    // used so far
	steps  []api.Step             // the sequence
	routes []api.Route            // found so far
	hops   map[api.Step][]api.Hop // of the steps that were extended, because layout.Hops checks the whole layout each time
}

// push appends a step to the sequence, or reports false if no unit is left for it.
func (s *search) push(step api.Step) bool {
	if s.units == s.budget {
		return false
	}
	s.units++
	s.steps = append(s.steps, step)
	return true
}

// pop removes the last step of the sequence.
func (s *search) pop() {
	s.steps = s.steps[:len(s.steps)-1]
}

// extend finds the routes that begin with the sequence, and leaves the sequence as it was; it reports false if it needs more units than are left.
func (s *search) extend() bool {
	if len(s.steps) == api.MaxSteps {
		return true
	}
	for _, hop := range s.hopsFromTheLast() {
		if passes(s.steps, hop.To.Section) {
			continue
		}
		if !s.push(hop.To) {
			return false
		}
		if hop.To.Section == s.to {
			s.routes = append(s.routes, api.Route{Steps: slices.Clone(s.steps)})
		} else if !s.extend() {
			return false
		}
		s.pop()
	}
	return true
}

// hopsFromTheLast returns the hops from the last step of the sequence.
func (s *search) hopsFromTheLast() []api.Hop {
	last := s.steps[len(s.steps)-1]
	hops, known := s.hops[last]
	if !known {
		hops = layout.Hops(s.layout, last)
		s.hops[last] = hops
	}
	return hops
}
