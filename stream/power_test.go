package stream_test

import (
	"slices"
	"testing"

	"incipit/api"
	"incipit/device"
	"incipit/stream"
)

// P11.3: power that is off, in each call, of a file with bytes and of one without.
func TestPowerOff(t *testing.T) {
	for _, ahead := range [][]change{nil, {writes(3, data(500, 1)), writes(4, data(238, 2))}} {
		r := begun(t, 64)
		r.do(ahead...)
		r.commit()
		root := r.f.Root()
		r.d.Crash()
		for _, section := range []int{0, 3, 4, 15} {
			r.unchanged("no power", api.ErrDown, slices.Concat(readers(section), changers(section), ofAll())...)
		}
		if r.f.Root() != root {
			t.Errorf("Root = %d, want %d", r.f.Root(), root)
		}
		r.d.Power()
		r.agree()
	}
}

// P11.2, P11.3: power that goes at each write of a change: what was committed is there, whatever a crash keeps of the rest.
func TestPowerGoes(t *testing.T) {
	for i, s := range scenes() {
		r, _ := s.set(t)
		_, before, _ := r.d.Counts()
		r.do(s.then)
		_, after, _ := r.d.Counts()
		step := max(1, (after-before)/25)
		for left := 0; left < after-before; left += step {
			r, was := s.set(t)
			r.d.Arm(left)
			if e := s.then.of(r.f); e != api.ErrDown || r.d.On() {
				t.Fatalf("scene %d, %s with %d writes: %d, On %v", i, s.then.name, left, e, r.d.On())
			}
			for _, c := range slices.Concat(readers(2), changers(2), ofAll()) {
				if e := c.do(r.f); e != api.ErrDown {
					t.Errorf("scene %d: %s without power: %d", i, c.name, e)
				}
			}
			if left%2 == 0 {
				var keep []device.Keep
				for page := range 512 {
					keep = append(keep, device.Keep{Page: page, N: page % 3, Part: 5 * page % 256})
				}
				r.d.Crash(keep...)
			}
			r.d.Power()
			r.stands(was)
			r.abort(was)
			r.do(s.then)
			r.agree()
		}
		// Just so many writes are enough.
		r, _ = s.set(t)
		r.d.Arm(after - before)
		if e := s.then.of(r.f); e != api.OK {
			t.Errorf("scene %d, %s: %d", i, s.then.name, e)
		}
	}
}

// P11.2: what is beside an error in part is no hindrance: all that is taken is the file's, and Abort gives it back.
func TestAbortBehindErrors(t *testing.T) {
	for left := range 30 {
		r := begun(t, 64)
		was := r.commit()
		r.d.Arm(left)
		f := r.f
		for n := 1; f.Add(n%3, data(300*n, n)) == api.OK; n++ {
		}
		r.d.Power()
		r.abort(was)
		if r.a.Free() != 62 {
			t.Errorf("%d are free", r.a.Free())
		}
		f = opened(t, r.d, r.a, 0, 2)
		if e := f.Write(1, data(400, 1)); e != api.OK {
			t.Error(e)
		}
		if n, e := f.Size(1); n != 400 || e != api.OK {
			t.Errorf("Size = %d %d", n, e)
		}
	}
}

// P11.4: changes that follow each other, the power going anywhere: a file opened anew at the old root reads what it read.
func TestCrashes(t *testing.T) {
	for seed := range 30 {
		r := begun(t, 300)
		r.seldom = 100
		dice := dice(seed)
		for section := range 5 {
			r.do(writes(section, data(dice.below(3000), section)))
		}
		was := r.commit()
		r.d.Arm(dice.below(120))
		calls := []func(f *stream.File, section, n int) api.Errno{
			func(f *stream.File, section, n int) api.Errno { return f.Write(section, data(n, n)) },
			func(f *stream.File, section, n int) api.Errno { return f.Add(section, data(n, n), data(n, 1)) },
			func(f *stream.File, section, _ int) api.Errno { return f.Drop(section) },
		}
		for r.d.On() {
			e := calls[dice.below(3)](r.f, dice.below(6), dice.below(1500))
			if e != api.OK && e != api.ErrDown {
				t.Fatalf("%d: %d", seed, e)
			}
		}
		if dice.below(2) == 0 {
			r.d.Crash()
		}
		r.d.Power()
		r.stands(was)
		r.abort(was)
	}
}
