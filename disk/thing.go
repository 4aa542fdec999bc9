package disk

import "slices"

// byteChange is a change in the row of a thing.
type byteChange interface {
	units() int
	// apply makes its first units on these bytes, in their place; all changes
	// ahead of it in its row have been made there.
	apply(bytes []byte, units int) []byte
}

// write has its bytes as a text, which nobody can write over, so that a row
// may be copied change by change.
type write struct {
	at   int // at most the size that there was
	data string
}

func (w write) units() int { return len(w.data) }

func (w write) apply(bytes []byte, units int) []byte {
	data := w.data[:units]
	over := copy(bytes[w.at:], data)
	return append(bytes, data[over:]...)
}

type cut struct {
	to int // at most the size that there was
}

func (c cut) units() int { return 1 }

func (c cut) apply(bytes []byte, units int) []byte { return bytes[:c.to] }

// thing is what a name leads to: its safe bytes with all changes of its row
// made are those that are shown.
type thing struct {
	safe  string
	row   []byteChange
	shown []byte
}

func (t *thing) change(c byteChange) {
	t.row = append(t.row, c)
	t.shown = c.apply(t.shown, c.units())
}

func (t *thing) sync() {
	t.safe = string(t.shown)
	t.row = nil
}

func (t *thing) units() int {
	sum := 0
	for _, c := range t.row {
		sum += c.units()
	}
	return sum
}

// crash leaves a first part of the row; of the change that is cut, its first
// units.
func (t *thing) crash(pick int) {
	left := round(pick, t.units())
	t.shown = []byte(t.safe)
	for _, c := range t.row {
		if left == 0 {
			break // the place of what comes behind need not be there
		}
		units := min(left, c.units())
		t.shown = c.apply(t.shown, units)
		left -= units
	}
	t.sync()
}

func (t *thing) twin() *thing {
	return &thing{safe: t.safe, row: slices.Clone(t.row), shown: slices.Clone(t.shown)}
}
