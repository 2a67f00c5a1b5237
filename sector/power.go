package sector

// power tells how many writes are left till it is gone. Its zero value isn't to
// be cut.
type power struct {
	limited bool
	left    int
}

func (p *power) gone() bool {
	return p.limited && p.left == 0
}

// spend is called only where power isn't gone, so that left stays above 0
// ahead of it.
func (p *power) spend() {
	if p.limited {
		p.left--
	}
}
