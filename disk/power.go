package disk

// arming is how a disk is armed; the zero one: it is not.
type arming struct {
	armed bool
	left  int
	mask  string
}

func (a *arming) countWrite() {
	if a.armed {
		a.left--
	}
}

// Arm lets the power be cut behind n more writes; below 0, it no longer is.
func (d *Disk) Arm(n int, mask string) {
	if d.off {
		return
	}
	d.arming = arming{}
	if n >= 0 {
		d.arming = arming{armed: true, left: n, mask: mask}
	}
}

// Cut cuts the power.
func (d *Disk) Cut(mask string) {
	if !d.off {
		d.cutPower(mask)
	}
}

// Power turns it on.
func (d *Disk) Power() { d.off = false }

// On tells whether it is on.
func (d *Disk) On() bool { return !d.off }

// cutIfDue cuts the power if the disk is armed and no write is left, and tells whether it did.
func (d *Disk) cutIfDue() bool {
	if !d.arming.armed || d.arming.left > 0 {
		return false
	}
	d.cutPower(d.arming.mask)
	return true
}

func (d *Disk) cutPower(mask string) {
	for position, i := range d.Pending() {
		d.settle(i, position < len(mask) && mask[position]%2 == 1)
	}
	d.off = true
	d.arming = arming{}
}
