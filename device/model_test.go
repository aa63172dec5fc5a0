package device_test

import (
	"bytes"
	"math"
	"slices"
	"testing"

	"incipit/api"
	"incipit/device"
)

// written is a version: which page, and its bytes.
type written struct {
	page  int
	bytes []byte
}

// model goes as the chapter's words say it, by one list of all that was written since the last sync.
type model struct {
	laid                 [][]byte
	log                  []written
	on                   bool
	left                 int // below 0: it isn't armed
	reads, writes, syncs int
}

func newModel(pages int) *model {
	m := &model{on: true, left: -1}
	for range pages {
		m.laid = append(m.laid, make([]byte, api.PageSize))
	}
	return m
}

// of: the page's versions that wait.
func (m *model) of(page int) [][]byte {
	var l [][]byte
	for _, w := range m.log {
		if w.page == page {
			l = append(l, w.bytes)
		}
	}
	return l
}

func (m *model) read(no int) ([]byte, api.Errno) {
	switch {
	case !m.on:
		return nil, api.ErrDown
	case no < 0 || no >= len(m.laid):
		return nil, api.ErrRange
	}
	m.reads++
	if l := m.of(no); len(l) > 0 {
		return l[len(l)-1], api.OK
	}
	return m.laid[no], api.OK
}

// nothingLeft: is nothing left? The power goes then; else it is one less.
func (m *model) nothingLeft() bool {
	if m.left == 0 {
		m.on = false
		return true
	}
	if m.left > 0 {
		m.left--
	}
	return false
}

func (m *model) write(no int, b []byte) api.Errno {
	switch {
	case !m.on:
		return api.ErrDown
	case no < 0 || no >= len(m.laid):
		return api.ErrRange
	case len(b) != 256:
		return api.ErrLong
	case m.nothingLeft():
		return api.ErrDown
	}
	m.log = append(m.log, written{no, bytes.Clone(b)})
	m.writes++
	return api.OK
}

func (m *model) sync() api.Errno {
	if !m.on || m.nothingLeft() {
		return api.ErrDown
	}
	for _, w := range m.log {
		m.laid[w.page] = w.bytes
	}
	m.log = nil
	m.syncs++
	return api.OK
}

func (m *model) crash(keep []device.Keep) int {
	survived := 0
	for no := range m.laid {
		i := slices.IndexFunc(keep, func(k device.Keep) bool { return k.Page == no })
		if i < 0 {
			continue
		}
		page := bytes.Clone(m.laid[no])
		for j, b := range m.of(no) {
			if j < keep[i].N {
				copy(page, b)
				survived++
			} else if j == max(keep[i].N, 0) {
				for at := 0; at < 256 && at < keep[i].Part; at++ {
					page[at] = b[at]
				}
			}
		}
		m.laid[no] = page
	}
	m.log, m.on = nil, false
	return survived
}

func (m *model) power() { m.log, m.on, m.left = nil, true, -1 }

func (m *model) arm(n int) { m.left = max(n, -1) }

// chance tells numbers of no simple order, the same ones for the same seed.
type chance uint32

func (c *chance) below(n int) int {
	*c = *c*1664525 + 1013904223
	return int(*c>>8) % n
}

// bytes: so many, of no simple pattern.
func (c *chance) bytes(n int) []byte {
	b := make([]byte, n)
	for i := range b {
		b[i] = byte(c.below(256))
	}
	return b
}

// one of these.
func (c *chance) one(l ...int) int { return l[c.below(len(l))] }

// keeps: some Keeps, be it of one page twice, or of pages that aren't there.
func (c *chance) keeps(pages int) []device.Keep {
	var l []device.Keep
	for range c.below(2 * pages) {
		l = append(l, device.Keep{
			Page: c.below(pages+2) - 1,
			N:    c.one(math.MinInt, -1, 0, 0, 1, 1, 2, 3, 9, math.MaxInt),
			Part: c.one(math.MinInt, -1, 0, 1, 100, 255, 256, 257, math.MaxInt),
		})
	}
	return l
}

// sameState: what the device tells without a change is what the model has.
func sameState(t *testing.T, d *device.Device, m *model) {
	t.Helper()
	reads, writes, syncs := d.Counts()
	if reads != m.reads || writes != m.writes || syncs != m.syncs {
		t.Fatalf("Counts = %d %d %d, want %d %d %d", reads, writes, syncs, m.reads, m.writes, m.syncs)
	}
	if d.On() != m.on || d.Waiting() != len(m.log) || d.Pages() != len(m.laid) {
		t.Fatalf("On %v, Waiting %d, Pages %d, want %v, %d, %d", d.On(), d.Waiting(), d.Pages(), m.on, len(m.log), len(m.laid))
	}
	if !bytes.Equal(d.Image(), bytes.Join(m.laid, nil)) {
		t.Fatal("Image isn't what is laid")
	}
}

// P3.1 to P3.3: many calls of all kinds have the answers of the words, and leave what these say.
func TestDeviceIsThatOfTheWords(t *testing.T) {
	for seed := range 60 {
		c := chance(seed)
		pages := 1 + c.below(6)
		d, m := made(t, pages), newModel(pages)
		for range 400 {
			no := c.below(pages+2) - 1
			switch c.below(12) {
			case 0, 1, 2, 3, 4:
				b := c.bytes(c.one(0, 255, 256, 256, 256, 256, 256, 256, 256, 257))
				if got, want := d.Write(no, b), m.write(no, b); got != want {
					t.Fatalf("Write(%d, %d bytes) = %d, want %d", no, len(b), got, want)
				}
			case 5, 6, 7:
				got, e := d.Read(no)
				want, f := m.read(no)
				if !bytes.Equal(got, want) || e != f {
					t.Fatalf("Read(%d) = %x %d, want %x %d", no, got, e, want, f)
				}
			case 8:
				if got, want := d.Sync(), m.sync(); got != want {
					t.Fatalf("Sync = %d, want %d", got, want)
				}
			case 9:
				n := c.one(math.MinInt, -1, 0, 1, 2, 5, 9, math.MaxInt)
				d.Arm(n)
				m.arm(n)
			case 10:
				keep := c.keeps(pages)
				if got, want := d.Crash(keep...), m.crash(keep); got != want {
					t.Fatalf("Crash(%v) = %d, want %d", keep, got, want)
				}
			case 11:
				d.Power()
				m.power()
			}
			sameState(t, d, m)
		}
	}
}
