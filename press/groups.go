package press

// groupItems is how many items a group has, if it is not the last one.
const groupItems = 8

// groups are packed bytes that grow item by item.
type groups struct {
	bytes []byte
	flag  int // where the flag of the last group stands
	items int // of all groups
}

func (g *groups) literal(b byte) {
	g.begin(0)
	g.bytes = append(g.bytes, b)
}

func (g *groups) match(m match) {
	g.begin(1)
	h, l := m.coded()
	g.bytes = append(g.bytes, h, l)
}

// begin lays the bit of an item, in a new group if the last one is full.
func (g *groups) begin(bit byte) {
	place := g.items % groupItems
	if place == 0 {
		g.flag = len(g.bytes)
		g.bytes = append(g.bytes, 0)
	}
	g.bytes[g.flag] |= bit << place
	g.items++
}
