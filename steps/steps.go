// Package steps takes the events of a log one after the other, for the layers that replay logs.
package steps

import (
	"scorebook/api"
	"scorebook/match"
)

// Take takes events from a state on, up to the first one that is refused, and calls each for every accepted one with its index and the states before and after it. It returns the last state, and the index and the law of the refused event (-1 and Legal if there is none).
func Take(m api.Match, l []api.Event, each func(i int, before, after api.Match)) (api.Match, int, api.Law) {
	for i, e := range l {
		if i >= api.MaxEvents {
			return m, i, api.LawEnded
		}
		next, law := match.Step(m, e)
		if law != api.Legal {
			return m, i, law
		}
		each(i, m, next)
		m = next
	}
	return m, -1, api.Legal
}
