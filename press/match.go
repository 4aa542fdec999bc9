package press

// What a match can tell in its two bytes.
const (
	leastLength  = 3
	mostLength   = 66
	lengths      = mostLength - leastLength + 1
	mostDistance = 1024
)

// match says how far back the bytes stand that come once more, and how many.
type match struct {
	distance, length int
}

func (m match) coded() (h, l byte) {
	v := (m.distance-1)*lengths + m.length - leastLength
	return byte(v >> 8), byte(v)
}

func decoded(h, l byte) match {
	v := int(h)<<8 | int(l)
	return match{distance: v/lengths + 1, length: v%lengths + leastLength}
}
