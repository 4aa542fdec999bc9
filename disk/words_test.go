package disk_test

import (
	"bytes"
	"sort"
	"strings"

	"freight/api"
)

// words is a disk by the chapter's words: it keeps the safe ones and the rows,
// each change of a row cut to single units, and makes what is shown of them
// afresh each time.
type words struct {
	room    int
	on      bool
	names   map[string]int // the safe ones: which thing
	row     []func(names map[string]int)
	things  []wordThing
	strokes int
	plan    api.Plan
	behind  int
	reads   []api.Span
}

type wordThing struct {
	safe string
	row  []func(text string) string // a function for each unit
}

func wordsOf(room int, files ...api.FileBytes) *words {
	w := &words{room: room, on: true, names: map[string]int{}}
	for _, f := range files {
		w.names[f.Name] = len(w.things)
		w.things = append(w.things, wordThing{safe: string(f.Data)})
	}
	return w
}

func (w *words) twin() *words {
	v := *w
	v.names = w.namesBehind(0)
	v.row = append([]func(map[string]int){}, w.row...)
	v.things = nil
	for _, t := range w.things {
		v.things = append(v.things, wordThing{t.safe, append([]func(string) string{}, t.row...)})
	}
	v.reads = append([]api.Span{}, w.reads...)
	return &v
}

// namesBehind are the names with so many changes made.
func (w *words) namesBehind(changes int) map[string]int {
	names := map[string]int{}
	for name, t := range w.names {
		names[name] = t
	}
	for _, change := range w.row[:changes] {
		change(names)
	}
	return names
}

func (w *words) shown() map[string]int { return w.namesBehind(len(w.row)) }

func (t wordThing) behind(units int) string {
	text := t.safe
	for _, unit := range t.row[:units] {
		text = unit(text)
	}
	return text
}

func (t wordThing) shown() string { return t.behind(len(t.row)) }

func (w *words) text(name string) string { return w.things[w.shown()[name]].shown() }

func isWordName(name string) bool {
	for _, b := range []byte(name) {
		letter, digit := b >= 97 && b <= 122, b >= 48 && b <= 57
		if !letter && !digit && b != 46 && b != 45 && b != 95 && b != 43 {
			return false
		}
	}
	return len(name) >= 1 && len(name) <= 112
}

// ahead are the errors ErrOff, ErrName, ErrNone.
func (w *words) ahead(names ...string) api.Errno {
	if !w.on {
		return api.ErrOff
	}
	for _, name := range names {
		if !isWordName(name) {
			return api.ErrName
		}
	}
	if _, there := w.shown()[names[0]]; !there {
		return api.ErrNone
	}
	return api.OK
}

// stroke is P5.3 to P5.5 in one: a stroke that may be refused, and makes its change unless it is, or unless it is a sync at which the power goes off.
func (w *words) stroke(sync bool, refused func() api.Errno, change func()) api.Errno {
	w.strokes++
	w.behind++
	errno := refused()
	goesOff := w.plan.Off >= 1 && w.behind == w.plan.Off
	if errno == api.OK && !(sync && goesOff) {
		change()
	}
	if goesOff {
		w.on = false
		return api.ErrOff
	}
	return errno
}

func never() api.Errno { return api.OK }

func (w *words) noRoom() bool { return w.behind >= w.plan.From && w.behind <= w.plan.To }

func (w *words) Create(name string) api.Errno {
	if errno := w.ahead(name); errno != api.ErrNone {
		if errno == api.OK {
			return api.ErrThere
		}
		return errno
	}
	return w.stroke(false, func() api.Errno {
		switch {
		case len(w.shown()) >= 256:
			return api.ErrFiles
		case w.noRoom():
			return api.ErrFull
		}
		return api.OK
	}, func() {
		t := len(w.things)
		w.things = append(w.things, wordThing{})
		w.row = append(w.row, func(names map[string]int) { names[name] = t })
	})
}

func (w *words) WriteAt(name string, at int, data []byte) api.Errno {
	if errno := w.ahead(name); errno != api.OK {
		return errno
	}
	if at < 0 || at > len(w.text(name)) {
		return api.ErrBeyond
	}
	more := max(0, at+len(data)-len(w.text(name)))
	return w.stroke(false, func() api.Errno {
		if w.noRoom() || more > 0 && w.Used()+more > w.room {
			return api.ErrFull
		}
		return api.OK
	}, func() {
		t := &w.things[w.shown()[name]]
		for i, b := range bytes.Clone(data) {
			t.row = append(t.row, func(text string) string {
				if at+i == len(text) {
					return text + string([]byte{b})
				}
				return text[:at+i] + string([]byte{b}) + text[at+i+1:]
			})
		}
	})
}

func (w *words) Append(name string, data []byte) api.Errno {
	if errno := w.ahead(name); errno != api.OK {
		return errno
	}
	return w.WriteAt(name, len(w.text(name)), data)
}

func (w *words) Truncate(name string, n int) api.Errno {
	if errno := w.ahead(name); errno != api.OK {
		return errno
	}
	if n < 0 || n > len(w.text(name)) {
		return api.ErrBeyond
	}
	return w.stroke(false, never, func() {
		t := &w.things[w.shown()[name]]
		t.row = append(t.row, func(text string) string { return text[:n] })
	})
}

func (w *words) Rename(from, to string) api.Errno {
	if errno := w.ahead(from, to); errno != api.OK {
		return errno
	}
	return w.stroke(false, never, func() {
		if from == to {
			return
		}
		w.row = append(w.row, func(names map[string]int) {
			names[to] = names[from]
			delete(names, from)
		})
	})
}

func (w *words) Remove(name string) api.Errno {
	if errno := w.ahead(name); errno != api.OK {
		return errno
	}
	return w.stroke(false, never, func() {
		w.row = append(w.row, func(names map[string]int) { delete(names, name) })
	})
}

func (w *words) Sync(name string) api.Errno {
	if errno := w.ahead(name); errno != api.OK {
		return errno
	}
	return w.stroke(true, never, func() {
		t := w.shown()[name]
		w.things[t] = wordThing{safe: w.things[t].shown()}
	})
}

func (w *words) SyncNames() api.Errno {
	if !w.on {
		return api.ErrOff
	}
	return w.stroke(true, never, func() { w.names, w.row = w.shown(), nil })
}

func (w *words) Read(name string, at, n int) ([]byte, api.Errno) {
	if errno := w.ahead(name); errno != api.OK {
		return nil, errno
	}
	text := w.text(name)
	if at < 0 || n < 0 || at > len(text) || n > len(text) || at+n > len(text) {
		return nil, api.ErrBeyond
	}
	w.reads = append(w.reads, api.Span{Name: name, At: at, N: n})
	return []byte(text[at : at+n]), api.OK
}

func (w *words) Size(name string) (int, api.Errno) {
	if errno := w.ahead(name); errno != api.OK {
		return 0, errno
	}
	return len(w.text(name)), api.OK
}

func sortedNames(names map[string]int) []string {
	var list []string
	for name := range names {
		list = append(list, name)
	}
	sort.Strings(list)
	return list
}

func (w *words) List(prefix string) []string {
	var list []string
	for _, name := range sortedNames(w.shown()) {
		if w.on && strings.HasPrefix(name, prefix) {
			list = append(list, name)
		}
	}
	return list
}

func (w *words) Plan(p api.Plan) {
	if w.on {
		w.plan, w.behind = p, 0
	}
}

// roundOf counts until it is met.
func roundOf(pick, number int) int {
	for r := 0; r <= number; r++ {
		if (pick-r)%(number+1) == 0 {
			return r
		}
	}
	return -1
}

func (w *words) Crash(picks ...int) {
	next := func() int {
		if len(picks) == 0 {
			return 0
		}
		pick := picks[0]
		picks = picks[1:]
		return pick
	}
	names := w.namesBehind(roundOf(next(), len(w.row)))
	var files []api.FileBytes
	for _, name := range sortedNames(names) {
		t := w.things[names[name]]
		files = append(files, api.FileBytes{Name: name, Data: []byte(t.behind(roundOf(next(), len(t.row))))})
	}
	reads := w.reads
	*w = *wordsOf(w.room, files...)
	w.reads = reads
}

// wholePicks are the numbers of all changes and of all units.
func (w *words) wholePicks() []int {
	picks := []int{len(w.row)}
	names := w.shown()
	for _, name := range sortedNames(names) {
		picks = append(picks, len(w.things[names[name]].row))
	}
	return picks
}

func (w *words) Off() bool { return !w.on }

func (w *words) Strokes() int { return w.strokes }

func (w *words) Used() int {
	used := 0
	for _, f := range w.Files() {
		used += len(f.Data)
	}
	return used
}

func (w *words) Room() int { return w.room }

func (w *words) Files() []api.FileBytes {
	var files []api.FileBytes
	names := w.shown()
	for _, name := range sortedNames(names) {
		files = append(files, api.FileBytes{Name: name, Data: []byte(w.things[names[name]].shown())})
	}
	return files
}

func (w *words) Safe() []api.FileBytes {
	var files []api.FileBytes
	for _, name := range sortedNames(w.names) {
		files = append(files, api.FileBytes{Name: name, Data: []byte(w.things[w.names[name]].safe)})
	}
	return files
}

func (w *words) Reads() []api.Span { return append([]api.Span{}, w.reads...) }

func (w *words) Look() { w.reads = nil }
