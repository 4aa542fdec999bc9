package press

import "freight/api"

// unpacking is how far packed bytes have been gone through.
type unpacking struct {
	rest  []byte // the packed bytes that are still to come
	bytes []byte // what came of the others
	most  int    // so many bytes may come in all
}

// literal takes an item that is the next byte, which is there.
func (u *unpacking) literal() api.Errno {
	if len(u.bytes) == u.most {
		return api.ErrPressLong
	}
	u.bytes = append(u.bytes, u.rest[0])
	u.rest = u.rest[1:]
	return api.OK
}

func (u *unpacking) match() api.Errno {
	if len(u.rest) < 2 {
		return api.ErrPress
	}
	m := decoded(u.rest[0], u.rest[1])
	if m.distance > len(u.bytes) {
		return api.ErrPress
	}
	if len(u.bytes)+m.length > u.most {
		return api.ErrPressLong
	}
	// One by one, as a match may go on over bytes that it has just made.
	for range m.length {
		u.bytes = append(u.bytes, u.bytes[len(u.bytes)-m.distance])
	}
	u.rest = u.rest[2:]
	return api.OK
}
