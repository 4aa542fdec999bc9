package press

// three are the bytes that a match has at the least.
type three [leastLength]byte

// places are where each three bytes stand, rising: a match begins with the
// three bytes of an earlier place.
type places map[three][]int

func threeAt(data []byte, at int) three {
	return three{data[at], data[at+1], data[at+2]}
}

// add keeps a place, unless too few bytes stand there for any match.
func (p places) add(data []byte, at int) {
	if len(data)-at < leastLength {
		return
	}
	key := threeAt(data, at)
	p[key] = append(p[key], at)
}

// longest is the nearest of the longest matches that begin at a place, with
// what stands at the places kept so far; one of no length, if there is none.
func (p places) longest(data []byte, at int) match {
	var best match
	most := min(mostLength, len(data)-at)
	if most < leastLength {
		return best
	}
	froms := p[threeAt(data, at)]
search:
	for i := len(froms) - 1; i >= 0; i-- {
		distance := at - froms[i]
		if distance > mostDistance {
			break search // the others stand farther off still
		}
		for length := leastLength; ; length++ {
			if length > best.length { // not at the same length: the nearer one was met first
				best = match{distance, length}
			}
			if length == most {
				break search
			}
			if data[at+length] != data[froms[i]+length] {
				continue search
			}
		}
	}
	return best
}
