package disk

import (
	"maps"
	"slices"
	"strings"

	"freight/api"
)

const nameBytes = "abcdefghijklmnopqrstuvwxyz0123456789.-_+"

func isName(text string) bool {
	if len(text) < 1 || len(text) > api.MaxName {
		return false
	}
	for i := range len(text) {
		if strings.IndexByte(nameBytes, text[i]) < 0 {
			return false
		}
	}
	return true
}

// names lead to things, no two of them to the same one.
type names map[string]*thing

func (n names) rising() []string { return slices.Sorted(maps.Keys(n)) }

// nameChange is a change in the row of names.
type nameChange interface {
	apply(n names)
	twin() nameChange
}

type making struct {
	name string
	made *thing
}

func (m making) apply(n names) { n[m.name] = m.made }

func (m making) twin() nameChange { return making{m.name, m.made.twin()} }

type giving struct {
	from, to string // never the same name
}

func (g giving) apply(n names) {
	n[g.to] = n[g.from]
	delete(n, g.from)
}

func (g giving) twin() nameChange { return g }

type taking struct {
	name string
}

func (t taking) apply(n names) { delete(n, t.name) }

func (t taking) twin() nameChange { return t }

// directory is the names of a disk: the safe ones with all changes of the row
// made are those that are shown.
type directory struct {
	safe  names
	row   []nameChange
	shown names
}

func (d *directory) change(c nameChange) {
	d.row = append(d.row, c)
	c.apply(d.shown)
}

func (d *directory) sync() {
	d.safe = maps.Clone(d.shown)
	d.row = nil
}

// crash leaves a first part of the row.
func (d *directory) crash(pick int) {
	left := round(pick, len(d.row))
	d.shown = maps.Clone(d.safe)
	for _, c := range d.row[:left] {
		c.apply(d.shown)
	}
	d.sync()
}

// twin takes each thing but once, where it came in: it has a safe name, or it
// was made by a change of the row. The names that are shown come of these.
func (d *directory) twin() directory {
	twin := directory{safe: names{}}
	for name, t := range d.safe {
		twin.safe[name] = t.twin()
	}
	twin.shown = maps.Clone(twin.safe)
	for _, c := range d.row {
		twin.change(c.twin())
	}
	return twin
}
