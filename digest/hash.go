package digest

const (
	blockSize  = 64 // bytes of the row that turn the state at once
	lengthSize = 8  // bytes of the number that ends the row
	endMark    = 128
)

// Hash takes bytes piece by piece; its zero value has taken none.
//
// All of it lies in the struct itself, so a copy goes on alone.
type Hash struct {
	state [8]uint32
	block [blockSize]byte // begins with the bytes that have not turned the state yet
	taken uint64
}

// Write takes a piece.
func (h *Hash) Write(piece []byte) {
	if h == nil {
		return
	}
	if h.taken == 0 {
		h.state = firstState()
	}
	for len(piece) > 0 {
		n := copy(h.block[h.taken%blockSize:], piece)
		h.taken += uint64(n)
		if h.taken%blockSize == 0 {
			h.state = turn(h.state, &h.block)
		}
		piece = piece[n:]
	}
}

// Sum is the SHA-256 of all that was taken so far; more may be taken behind it.
func (h *Hash) Sum() [32]byte {
	var last Hash
	if h != nil {
		last = *h // only the copy takes the row's end
	}
	last.Write(ending(last.taken))
	return inBytes(last.state)
}

// ending is what a row has behind a message of n bytes. It is never empty,
// so even a Hash that has taken nothing gets its first state with it.
func ending(n uint64) []byte {
	size := blockSize - n%blockSize
	if size < 1+lengthSize {
		size += blockSize
	}
	end := make([]byte, size)
	end[0] = endMark
	bits := 8 * n
	for i := len(end) - 1; i >= len(end)-lengthSize; i-- {
		end[i] = byte(bits)
		bits >>= 8
	}
	return end
}

func inBytes(state [8]uint32) [32]byte {
	var out [32]byte
	for i, word := range state {
		out[4*i] = byte(word >> 24)
		out[4*i+1] = byte(word >> 16)
		out[4*i+2] = byte(word >> 8)
		out[4*i+3] = byte(word)
	}
	return out
}
