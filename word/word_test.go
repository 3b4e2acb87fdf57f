package word_test

import (
	"math"
	"math/rand"
	"strconv"
	"strings"
	"testing"

	"fulmar/api"
	"fulmar/word"
)

const (
	mostData  = 262143
	leastData = -262144
)

// binary: the lowest bits of n, the highest one ahead.
func binary(n, width int) string {
	b := ""
	for range width {
		b = strconv.Itoa(n&1) + b
		n >>= 1
	}
	return b
}

// turned round, a text's last byte ahead.
func turned(s string) string {
	b := ""
	for _, c := range s {
		b = string(c) + b
	}
	return b
}

// written: the word of a reading, worked out as a text of ones and noughts, bit 31 ahead.
func written(t *testing.T, r api.Reading) uint32 {
	t.Helper()
	s := binary(r.Status, 2) + binary(r.Data, 19) + binary(r.Source, 2) + turned(binary(r.Label, 8))
	if strings.Count(s, "1")%2 == 0 {
		s = "1" + s
	}
	w, err := strconv.ParseUint(s, 2, 32)
	if err != nil {
		t.Fatal(err)
	}
	return uint32(w)
}

// rightReadings: each label, source and status there is, with data at its ends, about 0, and between.
func rightReadings() []api.Reading {
	data := []int{0, 1, -1, 2, -2, 255, 256, -256, 1000, -1000, 131071, 131072, -131072, -131073, mostData, mostData - 1, leastData, leastData + 1, 174762, -174763}
	var l []api.Reading
	for label := range 256 {
		for k := range 16 {
			for _, n := range data {
				l = append(l, api.Reading{Label: label, Source: k % 4, Status: k / 4, Data: n})
			}
		}
	}
	return l
}

func wrongReadings() []api.Reading {
	var l []api.Reading
	for _, n := range []int{-1, 256, 257, -256, 511, 1 << 32, math.MaxInt, math.MinInt} {
		l = append(l, api.Reading{Label: n})
	}
	for _, n := range []int{-1, 4, 5, -4, 256, 1 << 32, math.MaxInt, math.MinInt} {
		l = append(l, api.Reading{Source: n}, api.Reading{Status: n}, api.Reading{Source: n, Status: 3, Label: 255, Data: 7})
	}
	for _, n := range []int{mostData + 1, leastData - 1, 524288, -524288, 1 << 32, 1 << 62, math.MaxInt, math.MinInt} {
		l = append(l, api.Reading{Data: n}, api.Reading{Label: 9, Source: 1, Status: 3, Data: n})
	}
	return append(l, api.Reading{Label: -1, Source: 4, Status: -1, Data: math.MaxInt})
}

// C1: a reading within its bounds is fine, at their ends too.
func TestCheckTakesWhatIsWithin(t *testing.T) {
	for _, r := range rightReadings() {
		if err := word.Check(r); err != nil {
			t.Fatalf("Check(%v): %v", r, err)
		}
	}
}

// C1: beyond any of them it is ErrRange, and there is no word.
func TestWrongReadingsHaveNoWord(t *testing.T) {
	for _, r := range wrongReadings() {
		if err := word.Check(r); err != api.ErrRange {
			t.Errorf("Check(%v): %v", r, err)
		}
		if w, err := word.Pack(r); w != 0 || err != api.ErrRange {
			t.Errorf("Pack(%v): %x %v", r, w, err)
		}
	}
}

// C1: where the parts of a word lie.
func TestPackByHand(t *testing.T) {
	for _, c := range []struct {
		r api.Reading
		w uint32
	}{
		{api.Reading{Label: 1, Status: 3, Data: -1}, 0xfffffc80},
		{api.Reading{}, 0x80000000},
		{api.Reading{Label: 1}, 0x00000080},
		{api.Reading{Label: 128}, 0x00000001},
		{api.Reading{Label: 255}, 0x800000ff},
		{api.Reading{Label: 3}, 0x800000c0},
		{api.Reading{Source: 1}, 0x00000100},
		{api.Reading{Source: 2}, 0x00000200},
		{api.Reading{Source: 3}, 0x80000300},
		{api.Reading{Data: 1}, 0x00000400},
		{api.Reading{Data: leastData}, 0x10000000},
		{api.Reading{Data: mostData}, 0x8ffffc00},
		{api.Reading{Data: -1}, 0x1ffffc00},
		{api.Reading{Status: 1}, 0x20000000},
		{api.Reading{Status: 2}, 0x40000000},
		{api.Reading{Status: 3}, 0xe0000000},
	} {
		if w, err := word.Pack(c.r); w != c.w || err != nil {
			t.Errorf("Pack(%v): %08x %v, wanted %08x", c.r, w, err, c.w)
		}
	}
}

// C1, C2: every word is as it is written out bit by bit, and says what was packed.
func TestPackAndBack(t *testing.T) {
	for _, r := range rightReadings() {
		w, err := word.Pack(r)
		if want := written(t, r); w != want || err != nil {
			t.Fatalf("Pack(%v): %08x %v, wanted %08x", r, w, err, want)
		}
		if back, err := word.Unpack(w); back != r || err != nil {
			t.Fatalf("Unpack(%08x): %v %v, packed was %v", w, back, err, r)
		}
	}
}

// C1, C2: all data there is comes back.
func TestAllDataComesBack(t *testing.T) {
	for n := leastData; n <= mostData; n++ {
		r := api.Reading{Label: n & 255, Source: n & 3, Status: n >> 2 & 3, Data: n}
		w, err := word.Pack(r)
		if err != nil {
			t.Fatalf("Pack(%v): %v", r, err)
		}
		if back, err := word.Unpack(w); back != r || err != nil {
			t.Fatalf("Unpack(%08x): %v %v, packed was %v", w, back, err, r)
		}
	}
}

// C2: a word with one bit turned is a bad one, whichever it is; with two it is none.
func TestTurnedBits(t *testing.T) {
	for _, r := range rightReadings()[:2000] {
		w, _ := word.Pack(r)
		for i := range 32 {
			if got, err := word.Unpack(w ^ 1<<i); got != (api.Reading{}) || err != api.ErrForm {
				t.Fatalf("Unpack(%08x): %v %v", w^1<<i, got, err)
			}
			if _, err := word.Unpack(w ^ 1<<i ^ 1<<(31-i)); err != nil {
				t.Fatalf("Unpack(%08x): %v", w^1<<i^1<<(31-i), err)
			}
		}
	}
}

// C2: any word is a bad one, or its reading's own.
func TestAnyWord(t *testing.T) {
	l := []uint32{0, 1, math.MaxUint32, math.MaxUint32 - 1, 1 << 31, 1<<31 - 1, 3, 0x55555555, 0xaaaaaaaa}
	d := rand.New(rand.NewSource(2))
	for range 20000 {
		l = append(l, d.Uint32())
	}
	for _, w := range l {
		r, err := word.Unpack(w)
		if strings.Count(strconv.FormatUint(uint64(w), 2), "1")%2 == 0 {
			if r != (api.Reading{}) || err != api.ErrForm {
				t.Fatalf("Unpack(%08x): %v %v", w, r, err)
			}
			continue
		}
		if err != nil {
			t.Fatalf("Unpack(%08x): %v", w, err)
		}
		if back := written(t, r); back != w {
			t.Fatalf("Unpack(%08x): %v, whose word is %08x", w, r, back)
		}
	}
}

// C1: of any number the nearest one that a word can hold; that is what Check asks for.
func TestHold(t *testing.T) {
	for _, k := range []struct{ n, want int }{
		{0, 0}, {-7, -7}, {262143, 262143}, {262144, 262143}, {-262144, -262144}, {-262145, -262144}, {math.MaxInt, 262143}, {math.MinInt, -262144},
	} {
		if got := word.Hold(k.n); got != k.want {
			t.Errorf("Hold(%d): %d", k.n, got)
		}
		if err := word.Check(api.Reading{Data: k.n}); (err == nil) != (k.n == k.want) {
			t.Errorf("Check of %d: %v", k.n, err)
		}
	}
}

// C1: readings are packed one by one, in their order; of one that may not be there is an error, and nothing else.
func TestPackAll(t *testing.T) {
	l := []api.Reading{{Label: 2, Status: 3, Data: 5}, {Label: 1, Status: 3, Data: -1}}
	words, err := word.PackAll(l)
	if err != nil || len(words) != 2 || words[1] != 0xfffffc80 {
		t.Errorf("%x, %v", words, err)
	}
	if first, _ := word.Pack(l[0]); words[0] != first {
		t.Errorf("%x, not %x", words[0], first)
	}
	if words, err := word.PackAll(nil); err != nil || len(words) != 0 {
		t.Errorf("of none: %x, %v", words, err)
	}
	if words, err := word.PackAll(append(l, api.Reading{Label: 256})); err != api.ErrRange || len(words) != 0 {
		t.Errorf("of a wrong one: %x, %v", words, err)
	}
}
