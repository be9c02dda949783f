package plan

import "haulier/api"

// search looks for the places of a vehicle's breaks among the stops of a tour that has none yet.
type search struct {
	time   api.Matrix
	stops  []api.Stop
	breaks []api.Break
	at     []int
}

// from: can all be in time, if one left the stop ahead of the i-th one then, and the k-th break and those behind it are still to be taken? If so, at says where they are. Each is tried as early as may be first, so the first places that do are found.
func (s *search) from(i, k, left int) bool {
	if i == len(s.stops) {
		return k == len(s.breaks)
	}
	if k < len(s.breaks) {
		_, next, there := stay(rest(s.breaks[k]), left)
		if there && s.from(i, k+1, next) {
			// The start is a stop too, but no visit.
			s.at[k] = i - 1
			return true
		}
	}
	_, next, there := stay(s.stops[i], left+travel(s.time, s.stops, i))
	return there && s.from(i+1, k, next)
}
