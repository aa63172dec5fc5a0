package device

import "sync/atomic"

// versions is what waits of each page, the first that was written first; a
// page of which nothing waits has no entry.
type versions map[int][][]byte

// add: b waits as the page's last version. It is kept, not copied.
func (v versions) add(no int, b []byte) { v[no] = append(v[no], b) }

// last: the page's last version that waits; false, if none does.
func (v versions) last(no int) ([]byte, bool) {
	n := v.count(no)
	if n == 0 {
		return nil, false
	}
	return v[no][n-1], true
}

// count: how many versions of the page wait.
func (v versions) count(no int) int { return len(v[no]) }

// all: how many versions of all pages wait.
func (v versions) all() int {
	n := 0
	for no := range v {
		n += v.count(no)
	}
	return n
}

// tally is what was done. A read changes nothing of a device but its tally,
// so with atomic numbers reads may go on at the same time.
type tally struct{ reads, writes, syncs atomic.Int64 }

func (t *tally) counts() (int, int, int) {
	return int(t.reads.Load()), int(t.writes.Load()), int(t.syncs.Load())
}
