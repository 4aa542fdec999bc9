package reach

import (
	"freight/api"
	"freight/tree"
)

// walk is what one call has found out. Each id is asked for once and read once:
// where it lies at several depths, its folders are looked up again.
type walk struct {
	op      string
	source  Source
	asked   set
	need    set
	lacking set
	noTrees set
	tooDeep set
	folders map[api.ID][]api.ID // of each tree that was read
}

// follow goes through all rounds; its error says that the source cannot look.
func follow(op string, s Source, results []api.Result) (*walk, error) {
	if s == nil {
		s = Map(nil)
	}
	w := &walk{op: op, source: s, asked: set{}, need: roots(results), lacking: set{}, noTrees: set{}, folders: map[api.ID][]api.ID{}}
	round := roots(results)
	for range api.MaxDepth {
		if err := w.askForTrees(round); err != nil {
			return nil, err
		}
		round = w.next(round)
	}
	w.tooDeep = round
	return w, w.askForOthers()
}

func roots(results []api.Result) set {
	ids := set{}
	for _, result := range results {
		ids.add(result.Root)
	}
	return ids
}

// askForTrees reads as trees those of a round that were not asked for as yet.
func (w *walk) askForTrees(round set) error {
	for _, id := range round.rising() {
		if w.wasAsked(id) {
			continue
		}
		data, there, err := w.ask(id)
		if err != nil {
			return err
		}
		if there {
			w.read(id, data)
		}
	}
	return nil
}

// askForOthers reads nothing: what no round had may be any bytes.
func (w *walk) askForOthers() error {
	for _, id := range w.need.rising() {
		if w.wasAsked(id) {
			continue
		}
		if _, _, err := w.ask(id); err != nil {
			return err
		}
	}
	return nil
}

func (w *walk) wasAsked(id api.ID) bool {
	_, was := w.asked[id]
	return was
}

// ask tells the bytes of an id, and whether it is there.
func (w *walk) ask(id api.ID) ([]byte, bool, error) {
	w.asked.add(id)
	data, err := w.source.Get(id)
	if err == nil {
		return data, true, nil
	}
	if !tellsOfALack(err) {
		return nil, false, fault(w.op, id, err)
	}
	w.lacking.add(id)
	return nil, false, nil
}

func (w *walk) read(id api.ID, data []byte) {
	entries, errno := tree.Parse(data)
	if errno != api.OK {
		w.noTrees.add(id)
		return
	}
	for _, entry := range entries {
		w.need.add(entry.ID)
		if entry.Kind == api.KindFolder {
			w.folders[id] = append(w.folders[id], entry.ID)
		}
	}
}

// next is the round behind this one. What lacks in this one, and what is no
// tree, has no folders.
func (w *walk) next(round set) set {
	ids := set{}
	for id := range round {
		ids.add(w.folders[id]...)
	}
	return ids
}
