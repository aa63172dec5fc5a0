package device

// power is whether a device is on, and how many writes and syncs are left
// where it is armed; the zero power is off.
type power struct {
	on, armed bool
	left      int
}

// light: the power is on, and nothing is armed.
func (p *power) light() { *p = power{on: true} }

// cut: the power is off.
func (p *power) cut() { p.on = false }

// limit: so many are left; as many as are asked for, with n below 0.
func (p *power) limit(n int) { p.armed, p.left = n >= 0, n }

// spend: may one more be done? It is one less then; if it may not, the power goes.
func (p *power) spend() bool {
	if !p.armed {
		return true
	}
	if p.left == 0 {
		p.cut()
		return false
	}
	p.left--
	return true
}
