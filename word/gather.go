package word

import (
	"cmp"
	"maps"
	"slices"

	"fulmar/api"
)

// who said something: a label and a source; an array, so that it can be compared and be a map's key.
type who [2]int

// by whom a reading was said.
func by(r api.Reading) who { return who{r.Label, r.Source} }

// Gather readings: of each label and source the last one that is none of the bad ones; by label, then source; how many are bad.
func Gather(words []uint32) ([]api.Reading, int, error) {
	if len(words) > api.MaxWords {
		return nil, 0, api.ErrLimit
	}
	last := map[who]api.Reading{}
	bad := 0
	for _, w := range words {
		r, err := Unpack(w)
		if err != nil {
			bad++
			continue
		}
		last[by(r)] = r
	}
	// No two of them are by the same, so that the order of the map can't be seen.
	return slices.SortedFunc(maps.Values(last), compare), bad, nil
}

// compare readings by label, then source.
func compare(a, b api.Reading) int {
	return cmp.Or(cmp.Compare(a.Label, b.Label), cmp.Compare(a.Source, b.Source))
}

// Find what a label's source says.
func Find(l []api.Reading, label, source int) (api.Reading, bool) {
	wanted := who{label, source}
	for _, r := range l {
		if by(r) == wanted {
			return r, true
		}
	}
	return api.Reading{}, false
}
