package stream

import (
	"slices"

	"strand/api"
	"strand/wire"
)

// wellMade tells whether a stream is.
func wellMade(s api.Stream) bool {
	if !wire.HeadOf(s).WellMade() {
		return false
	}
	last := -1
	for r := range slices.Values(s.Records) {
		if r.Block <= last || r.Block >= s.Blocks || !filled(r.Data, !r.Free, s.Size) {
			return false
		}
		last = r.Block
	}
	return true
}
