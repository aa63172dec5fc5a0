package rank_test

import (
	"math"
	"slices"
	"sync"
	"testing"

	"incipit/api"
	"incipit/rank"
)

// The chapter's example.
func TestExample(t *testing.T) {
	r, e := rank.Of(10, 2, 3, 9)
	if e != api.OK {
		t.Fatal(e)
	}
	if n, e := r.Rank(true, 9); n != 2 || e != api.OK {
		t.Errorf("Rank1(9) = %d %d", n, e)
	}
	if i, e := r.Select(true, 2); i != 9 || e != api.OK {
		t.Errorf("Select1(2) = %d %d", i, e)
	}
	if i, e := r.Select(false, 2); i != 4 || e != api.OK {
		t.Errorf("Select0(2) = %d %d", i, e)
	}
}

// P13.1, P13.2: a row of these bits, at each edge of bytes, words and blocks.
func TestNew(t *testing.T) {
	eachSmall(func(m model) { agree(t, "New", made(t, m), m) })
	eachModel(func(m model) { agree(t, "New", made(t, m), m) })
}

// P13.1, P13.2: each length up to a bit behind two blocks.
func TestNewOfEachLength(t *testing.T) {
	for n := range 1026 {
		m := drawn(n, func(i int) bool { return i%3 != 1 })
		agree(t, "New", made(t, m), m)
	}
}

// P13.1: a row has 65536 bits, and not one more.
func TestNewOfMany(t *testing.T) {
	for _, n := range []int{65535, 65536} {
		for _, shape := range shapes(n) {
			m := drawn(n, shape)
			agree(t, "New", made(t, m), m)
		}
	}
	for _, n := range []int{65537, 65538, 65544, 65600, 66048, 131072, 200000} {
		for _, bit := range []bool{true, false} {
			l := make([]bool, n)
			spoil(l, bit)
			r, e := rank.New(l...)
			wantNone(t, "New of too many", r, e, api.ErrLong)
		}
	}
}

// P13.1: a row whose ones are there, told in any order, once or twice.
func TestOf(t *testing.T) {
	check := func(m model) {
		rising := m.places(true)
		falling := slices.Clone(rising)
		slices.Reverse(falling)
		mixed := slices.Clone(rising)
		var seed uint32 = 7
		for i := range mixed {
			j := next(&seed, i+1)
			mixed[i], mixed[j] = mixed[j], mixed[i]
		}
		for _, ones := range [][]int{rising, falling, mixed, slices.Concat(rising, rising), slices.Concat(mixed, falling, mixed)} {
			r, e := rank.Of(len(m), ones...)
			if e != api.OK || !rank.Same(r, made(t, m)) {
				t.Fatalf("Of(%d, %v) = %d", len(m), ones, e)
			}
		}
		r, _ := rank.Of(len(m), mixed...)
		agree(t, "Of", r, m)
	}
	eachSmall(check)
	eachModel(check)
}

// P13.1: up to 65536 bits; how often a place is told doesn't matter.
func TestOfMany(t *testing.T) {
	for _, n := range []int{65535, 65536} {
		m := drawn(n, func(i int) bool { return i%7 == 3 || i == n-1 })
		r, e := rank.Of(n, m.places(true)...)
		if e != api.OK {
			t.Fatal(e)
		}
		agree(t, "Of", r, m)
		agree(t, "Of without ones", first(rank.Of(n)), make(model, n))
	}
	often := make([]int, 70000)
	agree(t, "Of one place, told often", first(rank.Of(3, often...)), model{true, false, false})
	spoil(often, 65535)
	r, e := rank.Of(65536, often...)
	if e != api.OK || !slices.Equal(r.Ones(), []int{65535}) {
		t.Errorf("Of the last place, told often: %d", e)
	}
}

func first(r *rank.Row, _ api.Errno) *rank.Row { return r }

// P13.1: ErrLong and ErrArg of what n is stand ahead of ErrRange of a place.
func TestOfNamesErrors(t *testing.T) {
	places := [][]int{nil, {0}, {1, 0}, {-1}, {0, -1}, {65535}, {65536}, {65537}, {math.MinInt}, {math.MaxInt}, {math.MaxInt, 0, math.MinInt}, make([]int, 65537)}
	for _, n := range []int{65537, 65538, 1 << 17, 1 << 32, 1<<32 + 5, math.MaxInt - 1, math.MaxInt} {
		for _, l := range places {
			r, e := rank.Of(n, l...)
			wantNone(t, "Of too many", r, e, api.ErrLong)
		}
	}
	for _, n := range []int{-1, -2, -64, -65536, -65537, -1 << 32, math.MinInt + 1, math.MinInt} {
		for _, l := range places {
			r, e := rank.Of(n, l...)
			wantNone(t, "Of below 0", r, e, api.ErrArg)
		}
	}
}

// P13.1: each place is from 0 up to one below n, wherever it is told.
func TestOfNamesPlaces(t *testing.T) {
	for _, n := range append([]int{65535, 65536}, lengths...) {
		for _, wrong := range append([]int{-1, n, n + 1, n + 7, n + 63, n + 64, n + 512}, far...) {
			for _, l := range [][]int{{wrong}, {wrong, wrong}, {0, wrong}, {wrong, 0}, {n - 1, wrong, 0}, {0, n - 1, wrong}} {
				r, e := rank.Of(n, l...)
				wantNone(t, "Of a place that isn't there", r, e, api.ErrRange)
			}
		}
		if n > 0 {
			m := make(model, n)
			agree(t, "Of the first", first(rank.Of(n, 0)), m.with(0))
			agree(t, "Of the last", first(rank.Of(n, n-1)), m.with(n-1))
		}
	}
}

// P13.2: places in the first and the last word of a block, and behind blocks that have none.
func TestSelectOverBlocks(t *testing.T) {
	for _, one := range []bool{true, false} {
		for _, places := range [][]int{
			{0}, {63}, {64}, {448}, {511}, {512}, {575}, {960}, {1023}, {1024},
			{1, 62, 449, 510}, {512, 1023}, {5000}, {5, 5000, 5001, 65535}, {65535}, {65024}, {0, 65535},
		} {
			m := drawn(65536, func(i int) bool { return slices.Contains(places, i) == one })
			r := made(t, m)
			for k, want := range places {
				if i, e := r.Select(one, k); i != want || e != api.OK {
					t.Errorf("Select(%t, %d) of %v = %d %d", one, k, places, i, e)
				}
			}
			for _, k := range []int{-1, len(places), len(places) + 1, 65535, 65536, math.MaxInt, math.MinInt} {
				if i, e := r.Select(one, k); i != 0 || e != api.ErrNone {
					t.Errorf("Select(%t, %d) of %v = %d %d", one, k, places, i, e)
				}
			}
		}
	}
}

// P13.2: as many numbers as blocks and words that have a bit.
func TestDirectory(t *testing.T) {
	for _, c := range []struct{ n, blocks, words int }{
		{0, 0, 0}, {1, 1, 1}, {64, 1, 1}, {65, 1, 2}, {511, 1, 8}, {512, 1, 8}, {513, 2, 9}, {1000, 2, 16}, {1024, 2, 16}, {1025, 3, 17}, {65535, 128, 1024}, {65536, 128, 1024},
	} {
		blocks, words := made(t, drawn(c.n, func(int) bool { return true })).Directory()
		if len(blocks) != c.blocks || len(words) != c.words {
			t.Errorf("of %d bits: %d blocks, %d words, want %d, %d", c.n, len(blocks), len(words), c.blocks, c.words)
		}
		for i, n := range blocks {
			if n != 512*i {
				t.Errorf("of %d ones: %d are ahead of block %d", c.n, n, i)
			}
		}
		for i, n := range words {
			if n != 64*(i%8) {
				t.Errorf("of %d ones: %d are in the block ahead of word %d", c.n, n, i)
			}
		}
	}
	r, _ := rank.Of(1000, 0, 63, 64, 511, 512, 999)
	blocks, words := r.Directory()
	if !slices.Equal(blocks, []int{0, 4}) || !slices.Equal(words, []int{0, 2, 3, 3, 3, 3, 3, 3, 0, 1, 1, 1, 1, 1, 1, 1}) {
		t.Errorf("Directory() = %v %v", blocks, words)
	}
}

// P13.3: what follows, of rows that nothing but their own answers tell of.
func TestWhatFollows(t *testing.T) {
	eachModel(func(m model) {
		r := made(t, m)
		for _, one := range []bool{true, false} {
			for k := range r.Count(one) {
				i, e := r.Select(one, k)
				n, e2 := r.Rank(one, i)
				bit, e3 := r.At(i)
				if e != api.OK || e2 != api.OK || e3 != api.OK || n != k || bit != one {
					t.Fatalf("of %d: Select(%t, %d) = %d %d, whose rank is %d %d", len(m), one, k, i, e, n, e2)
				}
			}
		}
		if r.Count(true)+r.Count(false) != r.Len() {
			t.Fatalf("of %d: %d ones and %d zeros", r.Len(), r.Count(true), r.Count(false))
		}
		was := 0
		for i := range r.Len() + 1 {
			ones, _ := r.Rank(true, i)
			zeros, _ := r.Rank(false, i)
			if ones+zeros != i || ones != was && ones != was+1 {
				t.Fatalf("of %d: ahead of %d %d ones and %d zeros, %d ones one place ahead", r.Len(), i, ones, zeros, was)
			}
			was = ones
		}
		if was != r.Count(true) {
			t.Fatalf("of %d: %d ones are ahead of the end, of %d", r.Len(), was, r.Count(true))
		}
	})
}

// P13.3: rows are the same if all bits are, and there are as many.
func TestSame(t *testing.T) {
	eachModel(func(m model) {
		r := made(t, m)
		asked := made(t, m)
		asked.Count(true)
		p, _, _ := rank.Parse(r.Bytes())
		for _, s := range []*rank.Row{r, asked, p, first(rank.Of(len(m), m.places(true)...))} {
			if !rank.Same(r, s) || !rank.Same(s, r) {
				t.Fatalf("%v isn't the same as itself", m)
			}
		}
		others := []model{append(slices.Clone(m), false), append(slices.Clone(m), true)}
		for i := range m {
			others = append(others, m.with(i))
		}
		if len(m) > 0 {
			others = append(others, m[:len(m)-1], m[1:], nil)
		}
		for _, other := range others {
			s := made(t, other)
			if rank.Same(r, s) || rank.Same(s, r) {
				t.Fatalf("%v is the same as %v", m, other)
			}
		}
		if rank.Same(r, nil) || rank.Same(nil, r) {
			t.Fatal("a row is the same as none")
		}
	})
	if !rank.Same(nil, nil) {
		t.Error("none isn't the same as none")
	}
}

// P13.3: a nil row answers ErrState ahead of all, 0, nothing.
func TestNilRow(t *testing.T) {
	var r *rank.Row
	for _, i := range append([]int{-1, 0, 1, 65536, 65537}, far...) {
		if one, e := r.At(i); one || e != api.ErrState {
			t.Errorf("At(%d) = %t %d", i, one, e)
		}
		for _, one := range []bool{true, false} {
			if n, e := r.Rank(one, i); n != 0 || e != api.ErrState {
				t.Errorf("Rank(%t, %d) = %d %d", one, i, n, e)
			}
			if place, e := r.Select(one, i); place != 0 || e != api.ErrState {
				t.Errorf("Select(%t, %d) = %d %d", one, i, place, e)
			}
		}
	}
	blocks, words := r.Directory()
	if r.Count(true) != 0 || r.Count(false) != 0 || r.Len() != 0 || len(r.Bytes()) != 0 || len(r.Ones()) != 0 || len(blocks) != 0 || len(words) != 0 {
		t.Errorf("%d %d %d %x %v %v %v", r.Count(true), r.Count(false), r.Len(), r.Bytes(), r.Ones(), blocks, words)
	}
	if !rank.Same(r, nil) || !rank.Same(nil, r) || rank.Same(r, new(rank.Row)) || rank.Same(new(rank.Row), r) {
		t.Error("Same of none")
	}
}

// P1: a row that was never made is one of no bits.
func TestZeroRow(t *testing.T) {
	agree(t, "the zero Row", new(rank.Row), model{})
	one, _ := rank.New(false)
	none, _ := rank.New()
	if !rank.Same(new(rank.Row), none) || !rank.Same(none, new(rank.Row)) || rank.Same(new(rank.Row), one) || rank.Same(one, new(rank.Row)) {
		t.Error("Same of the zero Row")
	}
}

// P13.2: whatever is asked first, the answers are the same.
func TestAskedInAnyOrder(t *testing.T) {
	m := drawn(1600, func(i int) bool { return i%5 == 0 || i > 1500 })
	for _, ask := range []func(r *rank.Row){
		func(r *rank.Row) { r.Rank(true, 1600) },
		func(r *rank.Row) { r.Rank(false, 0) },
		func(r *rank.Row) { r.Select(true, 0) },
		func(r *rank.Row) { r.Select(false, 1<<20) },
		func(r *rank.Row) { r.Count(true) },
		func(r *rank.Row) { r.Directory() },
		func(r *rank.Row) { r.Rank(true, -1) },
		func(r *rank.Row) { r.At(0); r.Ones(); r.Bytes() },
	} {
		r := made(t, m)
		ask(r)
		ask(r)
		agree(t, "asked", r, m)
		agree(t, "asked again", r, m)
	}
}

// P2, and the chapter's way 'once': a row that nobody asked yet may be asked by many at one time.
func TestAskedByMany(t *testing.T) {
	m := drawn(65536, func(i int) bool { return i%3 == 0 })
	for range 20 {
		r := made(t, m)
		var all sync.WaitGroup
		for who := range 8 {
			all.Go(func() {
				i := 65536 - who
				if n, e := r.Rank(true, i); n != m[:i].count(true) || e != api.OK {
					t.Errorf("Rank(true, %d) = %d %d", i, n, e)
				}
				if place, e := r.Select(true, 21000+who); place != 3*(21000+who) || e != api.OK {
					t.Errorf("Select(true, %d) = %d %d", 21000+who, place, e)
				}
			})
		}
		all.Wait()
	}
}
