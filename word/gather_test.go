package word_test

import (
	"math"
	"math/rand"
	"slices"
	"testing"

	"fulmar/api"
	"fulmar/word"
)

func packed(t *testing.T, l ...api.Reading) []uint32 {
	t.Helper()
	var out []uint32
	for _, r := range l {
		w, err := word.Pack(r)
		if err != nil {
			t.Fatal(err)
		}
		out = append(out, w)
	}
	return out
}

// told: what is to come of words, by asking for each label and source in turn, from the last word on.
func told(words []uint32) (l []api.Reading, bad int) {
	for _, w := range words {
		if _, err := word.Unpack(w); err != nil {
			bad++
		}
	}
	for label := range 256 {
		for source := range 4 {
			for i := len(words) - 1; i >= 0; i-- {
				if r, err := word.Unpack(words[i]); err == nil && r.Label == label && r.Source == source {
					l = append(l, r)
					break
				}
			}
		}
	}
	return l, bad
}

// C3: by hand: the last one of each, by label, then source; bad ones are counted, and don't take a good one's place.
func TestGatherByHand(t *testing.T) {
	words := packed(t,
		api.Reading{Label: 7, Source: 1, Status: 3, Data: 10},
		api.Reading{Label: 3, Source: 2, Status: 3, Data: 20},
		api.Reading{Label: 7, Source: 0, Status: 3, Data: 30},
		api.Reading{Label: 3, Source: 2, Status: 0, Data: -40},
		api.Reading{Label: 255, Source: 0, Data: 50},
		api.Reading{Label: 3, Source: 1, Data: 60},
		api.Reading{Label: 7, Source: 1, Status: 1, Data: 70},
	)
	words[6] ^= 1 << 12
	words = append(words, 0, math.MaxUint32)
	want := []api.Reading{
		{Label: 3, Source: 1, Data: 60},
		{Label: 3, Source: 2, Data: -40},
		{Label: 7, Source: 0, Status: 3, Data: 30},
		{Label: 7, Source: 1, Status: 3, Data: 10},
		{Label: 255, Data: 50},
	}
	if l, bad, err := word.Gather(words); !slices.Equal(l, want) || bad != 3 || err != nil {
		t.Errorf("%v %d %v, wanted %v", l, bad, err, want)
	}
}

// C3: no words, only bad ones, as many as may be, and one more.
func TestGatherAtItsEnds(t *testing.T) {
	for _, words := range [][]uint32{nil, {}} {
		if l, bad, err := word.Gather(words); len(l) != 0 || bad != 0 || err != nil {
			t.Errorf("of none: %v %d %v", l, bad, err)
		}
	}
	if l, bad, err := word.Gather(make([]uint32, 64)); len(l) != 0 || bad != 64 || err != nil {
		t.Errorf("of 64 bad ones: %v %d %v", l, bad, err)
	}
	var all []api.Reading
	for i := range 65 {
		all = append(all, api.Reading{Label: 200 + i/4, Source: i % 4, Status: 3, Data: -i})
	}
	words := packed(t, all...)
	if l, bad, err := word.Gather(words[:64]); !slices.Equal(l, all[:64]) || bad != 0 || err != nil {
		t.Errorf("of 64: %v %d %v", l, bad, err)
	}
	for _, more := range [][]uint32{words, make([]uint32, 65), make([]uint32, 100000)} {
		if l, bad, err := word.Gather(more); len(l) != 0 || bad != 0 || err != api.ErrLimit {
			t.Errorf("of %d: %v %d %v", len(more), l, bad, err)
		}
	}
}

// C3: whatever the words, it is as if each label and source were asked for in turn.
func TestGatherAnyWords(t *testing.T) {
	d := rand.New(rand.NewSource(3))
	for range 300 {
		var words []uint32
		for range d.Intn(65) {
			w := packed(t, api.Reading{Label: d.Intn(5) * 51, Source: d.Intn(4), Status: d.Intn(4), Data: d.Intn(2000) - 1000})[0]
			if d.Intn(6) == 0 {
				w ^= 1 << d.Intn(32)
			}
			words = append(words, w)
		}
		want, wantBad := told(words)
		if l, bad, err := word.Gather(words); !slices.Equal(l, want) || bad != wantBad || err != nil {
			t.Fatalf("Gather(%x): %v %d %v, wanted %v %d", words, l, bad, err, want, wantBad)
		}
	}
}

// C3, Z2: words stay as they are, and what is answered is fresh each time.
func TestGatherLeavesWordsAlone(t *testing.T) {
	words := packed(t, api.Reading{Label: 9}, api.Reading{Label: 2}, api.Reading{Label: 9, Data: 5}, api.Reading{Label: 1})
	kept := slices.Clone(words)
	first, _, _ := word.Gather(words[:3])
	for i := range first {
		first[i] = api.Reading{Label: -5}
	}
	second, _, _ := word.Gather(words[:3])
	if want := []api.Reading{{Label: 2}, {Label: 9, Data: 5}}; !slices.Equal(second, want) {
		t.Errorf("%v, wanted %v", second, want)
	}
	if !slices.Equal(words, kept) {
		t.Errorf("words became %x, were %x", words, kept)
	}
}

// C3: the first reading of a label's source, in lists of any order, with any readings.
func TestFind(t *testing.T) {
	l := []api.Reading{
		{Label: 7, Source: 1, Data: 10},
		{Label: 1, Source: 7, Data: 20},
		{Label: 7, Source: 2, Data: 30},
		{Label: 7, Source: 1, Data: 40},
		{Label: -3, Source: 900, Status: 77, Data: math.MinInt},
		{},
	}
	kept := slices.Clone(l)
	for _, c := range []struct {
		label, source, at int
	}{{7, 1, 0}, {1, 7, 1}, {7, 2, 2}, {-3, 900, 4}, {0, 0, 5}} {
		if r, ok := word.Find(l, c.label, c.source); r != l[c.at] || !ok {
			t.Errorf("Find(%d, %d): %v %v, wanted %v", c.label, c.source, r, ok, l[c.at])
		}
	}
	for _, c := range [][2]int{{7, 0}, {7, 3}, {2, 7}, {1, 1}, {2, 1}, {math.MaxInt, math.MinInt}} {
		if r, ok := word.Find(l, c[0], c[1]); r != (api.Reading{}) || ok {
			t.Errorf("Find(%v): %v %v", c, r, ok)
		}
	}
	if r, ok := word.Find(nil, 0, 0); r != (api.Reading{}) || ok {
		t.Errorf("Find in none: %v %v", r, ok)
	}
	if !slices.Equal(l, kept) {
		t.Errorf("the list became %v", l)
	}
}
