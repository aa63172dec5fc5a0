package rank_test

import (
	"bytes"
	"slices"
	"testing"

	"incipit/api"
	"incipit/rank"
)

// The rule of what is handed in and answered: neither the bytes nor the rest change with the row, nor it with them.
func TestParsedIsApart(t *testing.T) {
	eachModel(func(m model) {
		room := append(m.bytes(), 9, 8, 7, 0xAA, 0xAA)
		was := bytes.Clone(room)
		b := room[:len(room)-2]
		r, rest, e := rank.Parse(b)
		if e != api.OK || !bytes.Equal(room, was) || !bytes.Equal(rest, []byte{9, 8, 7}) {
			t.Fatalf("Parse(%x): %x %d, then %x", b, rest, e, room)
		}
		spoil(rest, 0x55)
		if !bytes.Equal(room, was) {
			t.Fatalf("the bytes changed with the rest")
		}
		agree(t, "behind the rest's change", r, m)
		r, rest, _ = rank.Parse(b)
		spoil(b, 0xFF)
		agree(t, "behind the bytes' change", r, m)
		if !bytes.Equal(rest, []byte{9, 8, 7}) {
			t.Fatalf("the rest changed with the bytes")
		}
	})
}

// The same of bits and places.
func TestWhatIsHandedInIsApart(t *testing.T) {
	eachModel(func(m model) {
		bits := append(slices.Clone(m), true, false)
		r := made(t, bits[:len(m)])
		if !slices.Equal(bits, append(slices.Clone(m), true, false)) {
			t.Fatal("New changed its bits")
		}
		for i := range bits {
			bits[i] = !bits[i]
		}
		agree(t, "New, behind the bits' change", r, m)

		places := append(m.places(true), -7, -7)
		slices.Reverse(places)
		was := slices.Clone(places)
		r, e := rank.Of(len(m), places[2:]...)
		if e != api.OK || !slices.Equal(places, was) {
			t.Fatalf("Of changed its places: %d", e)
		}
		spoil(places, 0)
		agree(t, "Of, behind the places' change", r, m)
	})
}

// The same of lists and bytes that are answered, each time.
func TestAnswersAreApart(t *testing.T) {
	eachModel(func(m model) {
		r := made(t, m)
		for range 2 {
			ones, b := r.Ones(), r.Bytes()
			blocks, words := r.Directory()
			spoil(ones, -1)
			spoil(b, 0xA5)
			spoil(blocks, -2)
			if slices.Contains(words, -2) {
				t.Fatal("the words changed with the blocks")
			}
			spoil(words, -3)
			if slices.Contains(blocks, -3) {
				t.Fatal("the blocks changed with the words")
			}
			agree(t, "behind what was spoiled", r, m)
		}
	})
}

// P2: the same calls have the same answers.
func TestTheSameAgain(t *testing.T) {
	run := func() []int {
		var seed uint32 = 11
		var l []int
		for range 400 {
			b := []byte{byte(next(&seed, 64)), byte(next(&seed, 256)), byte(next(&seed, 256)), byte(next(&seed, 4)), 0, 0, 0, 0, 0}
			r, rest, e := rank.Parse(b)
			n, e2 := r.Rank(true, next(&seed, 70)-2)
			i, e3 := r.Select(false, next(&seed, 70)-2)
			l = append(l, len(rest), int(e), n, int(e2), i, int(e3))
		}
		return l
	}
	if !slices.Equal(run(), run()) {
		t.Error("two runs differ")
	}
}
