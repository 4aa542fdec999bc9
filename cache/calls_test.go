package cache_test

import (
	"fmt"
	"slices"
	"strings"
	"testing"

	"freight/api"
	"freight/cache"
	"freight/disk"
)

// choice chooses one of so many.
type choice func(n int) int

// call is a call of the package, or of the disk beneath it (without an op).
type call struct {
	text, op string
	onCache  func(c *cache.Cache) (string, error)
	inWords  func(w *words) said
}

func open() call {
	return call{"Open", "cache.open",
		func(c *cache.Cache) (string, error) {
			_, err := cache.Open(c.Disk(), c.Name(), c.Width())
			return "", err
		},
		func(w *words) said {
			_, s := opened(w.disk, w.name, w.width)
			return s
		}}
}

func pending() call {
	return call{"Pending", "",
		func(c *cache.Cache) (string, error) { return fmt.Sprint(c.Pending()), nil },
		func(w *words) said { return w.pending() }}
}

func get(id api.ID) call {
	return call{"Get " + short(id), "cache.get",
		func(c *cache.Cache) (string, error) {
			data, err := c.Get(id)
			return string(data), err
		},
		func(w *words) said { return w.get(id) }}
}

func blobs() call {
	return call{"Blobs", "cache.blobs",
		func(c *cache.Cache) (string, error) {
			ids, err := c.Blobs()
			var texts []string
			for _, id := range ids {
				texts = append(texts, inHex(id))
			}
			return strings.Join(texts, " "), err
		},
		func(w *words) said { return w.blobs() }}
}

func tables() call {
	return call{"Table", "cache.table",
		func(c *cache.Cache) (string, error) {
			results, err := c.Table()
			return told(results...), err
		},
		func(w *words) said { return w.table() }}
}

func allOf() call {
	return call{"All", "cache.all",
		func(c *cache.Cache) (string, error) {
			seq, err := c.All()
			if err != nil {
				return "", err
			}
			return told(slices.Collect(seq)...), nil
		},
		func(w *words) said { return w.table() }}
}

func laying(l layer, data string) call {
	return call{fmt.Sprintf("%s %.20q/%d", l.op, data, len(data)), l.op,
		func(c *cache.Cache) (string, error) {
			id, err := l.call(c, []byte(data))
			if err != nil {
				return strings.Trim(inHex(id), "0"), err
			}
			return inHex(id), nil
		},
		func(w *words) said { return w.lay(l.op == "cache.put", data) }}
}

func set(r api.Result) call {
	return call{"Set " + told(r), "cache.set",
		func(c *cache.Cache) (string, error) { return "", c.Set(r) },
		func(w *words) said { return w.set(r) }}
}

func drop(id api.ID) call {
	return call{"Drop " + short(id), "cache.drop",
		func(c *cache.Cache) (string, error) { return "", c.Drop(id) },
		func(w *words) said { return w.drop(id) }}
}

func swap(results []api.Result) call {
	return call{"Swap " + told(results...), "cache.swap",
		func(c *cache.Cache) (string, error) { return "", c.Swap(results) },
		func(w *words) said { return w.swap(results) }}
}

// beneath is a call of the disk itself.
func beneath(text string, on func(d *disk.Disk)) call {
	return call{text, "",
		func(c *cache.Cache) (string, error) { on(c.Disk()); return "", nil },
		func(w *words) said { on(w.disk); return said{} }}
}

// byHand lays a file, or what comes of it where there is no power or no room; some are not safe.
func byHand(name, data string, isSafe bool) call {
	return beneath(fmt.Sprintf("hand %s %.20q/%d safe %t", name, data, len(data), isSafe), func(d *disk.Disk) {
		d.Remove(name)
		d.Create(name)
		d.Append(name, []byte(data))
		if isSafe {
			d.Sync(name)
			d.SyncNames()
		}
	})
}

// goods are few things that meet one another in many ways, all at the width 1.
type goods struct {
	rows   []string
	ids    []api.ID
	tables [][]api.Result
	names  []string
	forms  []string
}

func theGoods() goods {
	one, two := clash()
	leaf, empty := "pallet", treeOf()
	flat := treeOf(aFile(id1(leaf)), aRun(id1(one)))
	deep := treeOf(aFolder(id1(flat)), aFolder(id1(empty)), aFile(id1("")))
	lacking := treeOf(aFile(id1(leaf)), aFolder(id1("crate 7 of 31")))
	g := goods{rows: []string{"", leaf, "crate 7 of 31", one, two, empty, flat, deep, lacking, circle(), times(4096, "x"), times(4097, "x")}}
	for _, row := range g.rows {
		g.ids = append(g.ids, id1(row))
	}
	g.ids = append(g.ids, api.ID{}, api.ID{id1(leaf)[0], 1}, api.ID{0: id1(leaf)[0], 31: 1}, api.ID{31: 255})
	root := id1(empty)
	g.tables = [][]api.Result{nil, {res(1, root, 0)}, {res(1, root, 0), res(2, id1("no such one"), 255)}, actions(31, root), actions(32, root),
		actions(33, root), {res(2, root, 0), res(1, root, 0)}, {res(1, root, 256)}}
	g.forms = []string{"", "\x09", "\x00", tableOf(g.tables[1]...), tableOf(g.tables[2]...), tableOf(g.tables[3]...), tableOf(g.tables[4]...), tableOf(g.tables[1]...) + "\x00", leaf, two, times(4097, "y")}
	g.names = []string{"c.a.table", "c.a.import", "c.a.b.", "c.a.b.zz", "+c.a.table", "+" + nameOf(id1(leaf)), "+c.a.import", "+c.ab.table", "c.ab.table", "c.ab.import"}
	for _, id := range g.ids {
		g.names = append(g.names, nameOf(id))
	}
	return g
}

func (g goods) anyCall(choose choice) call {
	if choose(5) == 0 {
		return g.anyCallBeneath(choose)
	}
	return g.anyCallAbove(choose)
}

// anyCallAbove is one of the package.
func (g goods) anyCallAbove(choose choice) call {
	row, id := g.rows[choose(len(g.rows))], g.ids[choose(len(g.ids))]
	switch choose(20) {
	case 0, 1, 2, 3:
		return laying(layers()[0], row)
	case 4, 5:
		return laying(layers()[1], row)
	case 6, 7, 8, 9:
		return set(res(byte(choose(5)), id, []int{0, 0, 0, 7, 255, 256, -1}[choose(7)]))
	case 10, 11:
		return drop(id)
	case 12, 13:
		return swap(g.tables[choose(len(g.tables))])
	case 14:
		return get(id)
	case 15:
		return blobs()
	case 16:
		return tables()
	case 17:
		return allOf()
	case 18:
		return pending()
	}
	return open()
}

func (g goods) anyCallBeneath(choose choice) call {
	name := g.names[choose(len(g.names))]
	switch choose(7) {
	case 0:
		plan := api.Plan{Off: choose(20), From: choose(6), To: choose(8)}
		return beneath(fmt.Sprintf("Plan %v", plan), func(d *disk.Disk) { d.Plan(plan) })
	case 1, 2:
		picks := []int{choose(9), choose(9), choose(9), choose(9)}
		return beneath(fmt.Sprintf("Crash %v", picks), func(d *disk.Disk) { d.Crash(picks...) })
	case 3:
		return beneath("Remove "+name, func(d *disk.Disk) { d.Remove(name) })
	case 4:
		return beneath("Remove c.a.import", func(d *disk.Disk) { d.Remove("c.a.import") })
	}
	return byHand(name, g.forms[choose(len(g.forms))], choose(2) == 0)
}

// alike tells whether two disks show, and have safe, the same files behind as many strokes.
func alike(one, other *disk.Disk) bool {
	return one.Off() == other.Off() && one.Strokes() == other.Strokes() && same(one.Files(), other.Files()) && same(one.Safe(), other.Safe())
}

// wantAsWords asks a cache and the words for the same, call by call.
func wantAsWords(t testing.TB, c *cache.Cache, calls []call) map[api.Errno]int {
	t.Helper()
	w := &words{disk: c.Disk().Twin(), name: c.Name(), width: c.Width()}
	met := map[api.Errno]int{}
	var before []string
	for _, do := range calls {
		before = append(before, do.text)
		tells, err := do.onCache(c)
		want := do.inWords(w)
		met[want.code]++
		wantFault(t, do.text, err, do.op, c.Name(), want.id, want.code)
		if tells != want.told || !alike(c.Disk(), w.disk) {
			t.Fatalf("%s: %.200q, %v, want %s\ngot:  %s\nwant: %s", strings.Join(before, ", "), tells, err, want, all(c.Disk()), all(w.disk))
		}
		if t.Failed() {
			t.Fatalf("%s: %s\n%s", strings.Join(before, ", "), want, all(w.disk))
		}
	}
	if rows(c.Disk()) != rows(w.disk) {
		t.Fatalf("%s: crashes leave other files", strings.Join(before, ", "))
	}
	return met
}

// starts are disks with few files, and behind these some near their limits.
func (g goods) starts() (few, near [][]api.FileBytes) {
	full := of("c.a.table", tableOf(actions(32, id1(treeOf()))...))
	few = [][]api.FileBytes{nil, {full, blob(treeOf())}, {blob("pallet"), blob(treeOf()), blob(g.rows[3]), blob(g.rows[6])}}
	return few, [][]api.FileBytes{damages(127), damages(128), many(255), many(256)}
}

func TestFollows_LongRowsOfAnyCalls(t *testing.T) {
	r, g := noise(), theGoods()
	few, near := g.starts()
	met := map[api.Errno]int{}
	for i := range 1600 {
		var calls []call
		for range 1 + i%40 {
			calls = append(calls, g.anyCall(r.IntN))
		}
		files := few[i%len(few)]
		if i%16 == 0 {
			files = near[i/16%len(near)]
		}
		room := []int{api.MaxRoom, 9000, 2500}[r.IntN(3)]
		for code, n := range wantAsWords(t, mustOpen(t, mustLoad(t, room, files...), "a", 1), calls) {
			met[code] += n
		}
	}
	for _, code := range []api.Errno{api.OK, api.ErrArg, api.ErrLong, api.ErrOff, api.ErrFull, api.ErrFiles, api.ErrCache, api.ErrOpen, api.ErrCollision, api.ErrNoBlob, api.ErrDamage, api.ErrBlobs, api.ErrActions, api.ErrNoTree, api.ErrDeep, api.ErrMissing} {
		if met[code] < 5 {
			t.Errorf("%d was met %d times", code, met[code])
		}
	}
}

func FuzzAsTheWordsSay(f *testing.F) {
	g := theGoods()
	few, near := g.starts()
	starts := slices.Concat(few, near)
	f.Add([]byte{0, 0, 1, 1, 0, 3, 2, 1, 4, 5, 5, 6, 1, 0})
	f.Add([]byte{6, 2, 3, 3, 10, 4, 4, 19, 0, 0, 5, 1, 1, 6, 0, 0, 23, 0, 6, 1})
	f.Fuzz(func(t *testing.T, data []byte) {
		choose := func(n int) int {
			if len(data) == 0 {
				return 0
			}
			b := int(data[0])
			data = data[1:]
			return b % n
		}
		files := starts[choose(len(starts))]
		room := []int{api.MaxRoom, 9000, 2500}[choose(3)]
		var calls []call
		for len(data) > 0 && len(calls) < 60 {
			calls = append(calls, g.anyCall(choose))
		}
		wantAsWords(t, mustOpen(t, mustLoad(t, room, files...), "a", 1), calls)
	})
}
