package codec

const (
	polynomial = 0x82F63B78
	half       = 4         // bits that are taken in one step
	halves     = 1 << half // what such bits may be
)

// Sum is the sum of some bytes.
func Sum(b []byte) uint32 {
	steps := sumSteps()
	register := ^uint32(0)
	for _, c := range b {
		register ^= uint32(c)
		for range 8 / half {
			register = register>>half ^ steps[register%halves]
		}
	}
	return ^register
}

// sumSteps is filled anew for each sum, as the package keeps nothing; so it is of half bytes: one of whole bytes would take longer to fill than the sum of a block takes.
func sumSteps() [halves]uint32 {
	var steps [halves]uint32
	for i := range steps {
		steps[i] = shifted(uint32(i))
	}
	return steps
}

// shifted is what a register with nothing but these lowest bits becomes when they have fallen out.
func shifted(register uint32) uint32 {
	for range half {
		fell := register & 1
		register >>= 1
		if fell == 1 {
			register ^= polynomial
		}
	}
	return register
}
