package depot_test

import (
	"fmt"
	"testing"

	"freight/api"
	"freight/depot"
)

// full is a step of a kind with all fields filled, and all titles good.
func full(kind int) api.Step {
	return api.Step{Kind: kind, Cache: "a", File: "x", With: "y", To: "z", Data: []byte("hi"), Size: 16, Policy: api.Keep}
}

// each goes through the kinds.
func each(yield func(int) bool) {
	for kind := firstKind; kind <= lastKind; kind++ {
		if !yield(kind) {
			return
		}
	}
}

// lit, dark and none are depots: with its power on, off, and without a disk.
func lit(t testing.TB) *depot.Depot {
	g := stock(8)
	return load(t, 8, api.MaxRoom, append(g.files("a"), of("f.x", g.bundle(64)), of("f.y", "y"))...)
}

func allDepots(t testing.TB) []*depot.Depot {
	return append(noDepots(), lit(t), darken(t, lit(t)))
}

// A kind that is none is ErrStep, whatever else is wrong.
func TestP19_3_Kinds(t *testing.T) {
	for _, kind := range []int{0, -1, 22, 23, 42, 255, 256, 257, -21, 1 << 32, 1<<32 + 1, -1 << 63, 1<<63 - 1} {
		bad := full(kind)
		bad.Cache, bad.File, bad.With, bad.To, bad.Data = "A", "", "+", ".", make([]byte, api.MaxFile+1)
		for _, d := range allDepots(t) {
			wantRefused(t, d, full(kind), api.ErrStep, api.ID{})
			wantRefused(t, d, bad, api.ErrStep, api.ID{})
			wantRefused(t, d, api.Step{Kind: kind}, api.ErrStep, api.ID{})
		}
	}
	for kind := range each {
		for _, d := range allDepots(t) {
			if a := d.Do(full(kind)); a.Code == api.ErrStep {
				t.Errorf("%s: ErrStep", rowOf(kind).name)
			}
		}
	}
}

// noTitles are no titles, for each reason.
func noTitles() []string {
	list := []string{"", times(33, "a"), times(34, "-"), times(1<<16, "a"), "a.b", ".", "..", "a.", ".a", "+a", "a+", "A", "aB", "a b", " a", "a ", "a\n", "\na", "a\x00", "\x00", "ä", "a_b", "_", "a/b", "c.a", "f.x", "ａ", "é", "\xff", "`", "{", ":"}
	return append(list, times(31, "a")+".", times(32, "a")+".", times(31, "a")+"é")
}

// goodTitles are titles at their edges.
func goodTitles() []string {
	return []string{"a", "z", "0", "9", "-", "--", "a-b", "0a", times(32, "a"), times(31, "z") + "-", "abcdefghijklmnopqrstuvwxyz", "0123456789-", "table", "import", "b"}
}

// Each title that a kind has is asked for, on each depot, whichever of them it is;
// one that it has not is not.
func TestP19_3_Titles(t *testing.T) {
	for kind := range each {
		for _, letter := range "CFWT" {
			isAsked := false
			for _, one := range rowOf(kind).titles {
				isAsked = isAsked || one == letter
			}
			for _, none := range noTitles() {
				bad := full(kind)
				*titled(&bad, letter) = none
				if kind == api.StepHand && letter == 'T' {
					continue // any name that a Put takes
				}
				for k, d := range allDepots(t) {
					if isAsked {
						wantRefused(t, d, bad, api.ErrName, api.ID{})
						continue
					}
					want := allDepots(t)[k].Do(full(kind))
					if got := d.Do(bad); !sameAnswer(got, want) {
						t.Errorf("%s, %c %.10q on %d: %s, want %s", rowOf(kind).name, letter, none, k, brief(got), brief(want))
					}
				}
			}
		}
	}
}

// Each title that a kind has may be a good one of any length.
func TestP19_3_GoodTitles(t *testing.T) {
	for kind := range each {
		for _, letter := range rowOf(kind).titles {
			for _, title := range goodTitles() {
				s := full(kind)
				*titled(&s, letter) = title
				if got := lit(t).Do(s); got.Code == api.ErrName {
					t.Errorf("%s, %c %q: ErrName", rowOf(kind).name, letter, title)
				}
			}
		}
	}
}

// Which bytes a title has: each byte alone, first, last and in the midst; and how
// many.
func TestP19_3_BytesOfATitle(t *testing.T) {
	d := begin(t, 8, 1000)
	for b := range 256 {
		is := b >= 'a' && b <= 'z' || b >= '0' && b <= '9' || b == '-'
		one := string([]byte{byte(b)})
		for _, title := range []string{one, one + "a", "a" + one, "a" + one + "a", times(31, "a") + one, one + times(31, "a")} {
			for _, s := range []api.Step{telling(title), read(title), differ("x", title, "z"), sign("x", 16, title)} {
				want := api.ErrName
				if is {
					want = api.ErrNone
				}
				if got := d.Do(s).Code; got != want && !(is && s.Kind == api.StepCache && got == api.OK) {
					t.Errorf("%s: %d, want %d", name(s), got, want)
				}
			}
		}
	}
	for n := range 40 {
		want := api.ErrNone
		if n < 1 || n > 32 {
			want = api.ErrName
		}
		wantCode(t, d, read(times(n, "a")), want, api.ID{})
		wantCode(t, d, apply(times(n, "z"), "x", "x"), want, api.ID{})
		wantCode(t, d, apply("x", times(n, "-"), "x"), want, api.ID{})
		wantCode(t, d, apply("x", "x", times(n, "9")), want, api.ID{})
	}
}

// The Data of write has at most MaxFile bytes; that of no other kind is asked so.
func TestP19_3_Long(t *testing.T) {
	most, more := times(api.MaxFile, "m"), times(api.MaxFile+1, "m")
	for _, d := range append(noDepots(), darken(t, lit(t))) {
		wantCode(t, d, write("x", most), api.ErrOff, api.ID{})
		wantCode(t, d, write("x", more), api.ErrLong, api.ID{})
		wantCode(t, d, write("X", more), api.ErrName, api.ID{})
		wantCode(t, d, put("a", more), api.ErrOff, api.ID{})
		wantCode(t, d, hand("x", more), api.ErrOff, api.ID{})
	}
	d := lit(t)
	wantRefused(t, d, write("x", more), api.ErrLong, api.ID{})
	wantDone(t, d, write("x", most))
	wantAnswer(t, d, read("x"), api.Answer{Data: []byte(most)})
	wantDone(t, d, hand("f.l", more))
	wantAnswer(t, d, read("l"), api.Answer{Data: []byte(more)})
	wantRefused(t, d, put("a", more), api.ErrLong, api.ID{})
	for kind := range each {
		if kind == api.StepWrite || kind == api.StepPut || kind == api.StepHand {
			continue
		}
		s := full(kind)
		want := lit(t).Do(s)
		s.Data = []byte(more)
		if got := lit(t).Do(s); !sameAnswer(got, want) {
			t.Errorf("%s: %s, want %s", rowOf(kind).name, brief(got), brief(want))
		}
	}
}

// All sets of what stands ahead of what a kind does, in their order.
func TestP19_3_Order(t *testing.T) {
	for kind := range each {
		for set := range 1 << 4 {
			s, d, want := full(kind), lit(t), api.OK
			if set&1 != 0 {
				d, want = darken(t, d), api.ErrOff
			}
			if set&2 != 0 && kind == api.StepWrite {
				s.Data, want = make([]byte, api.MaxFile+1), api.ErrLong
			}
			if titles := rowOf(kind).titles; set&4 != 0 && titles != "" {
				*titled(&s, rune(titles[len(titles)-1])), want = "no.title", api.ErrName
			}
			if set&8 != 0 {
				s.Kind, want = kind+lastKind, api.ErrStep
			}
			if want == api.ErrOff && (kind == api.StepPlan || kind == api.StepCrash) {
				want = api.OK
			}
			if want != api.OK {
				wantRefused(t, d, s, want, api.ID{})
			} else if got := d.Do(s); got.Code == api.ErrOff || got.Code == api.ErrStep {
				t.Errorf("%s, set %d: %s", name(s), set, brief(got))
			}
		}
	}
}

// What the kind itself refuses stands behind the power's end, the arguments of its
// own call among it.
func TestP19_3_BehindThePower(t *testing.T) {
	tooBig := res(1, api.ID{}, 256)
	for _, s := range []api.Step{hand("+x", "x"), hand("", "x"), hand("A", ""), hand(times(112, "a"), ""), put("a", times(4097, "b")), set("a", tooBig), export("a", "x", 15), taking("a", "x", 0), restoring("a", "x", 4), sign("x", 1, "y"), differ("q", "q", "q"), apply("q", "q", "q"), verify("q"), list("q"), read("q"), erase("q"), resume("a"), abandon("a"), drop("a", act(1)), get("a", act(1)), telling("q")} {
		for _, d := range append(noDepots(), darken(t, lit(t))) {
			wantRefused(t, d, s, api.ErrOff, api.ID{})
		}
		if got := lit(t).Do(s); s.Kind != api.StepCache && (got.Code == api.OK || got.Code == api.ErrOff) {
			t.Errorf("%s: %s", name(s), brief(got))
		}
	}
}

// Every kind on a nil and on a zero Depot, plan and crash too.
func TestP19_3_NoDepot(t *testing.T) {
	for kind := range each {
		for _, d := range noDepots() {
			wantCode(t, d, full(kind), api.ErrOff, api.ID{})
			if titles := rowOf(kind).titles; titles != "" {
				wantCode(t, d, api.Step{Kind: kind}, api.ErrName, api.ID{})
			} else {
				wantCode(t, d, api.Step{Kind: kind}, api.ErrOff, api.ID{})
			}
		}
	}
}

// A plan while the power is off is OK, and none; a crash puts it on again.
func TestP19_3_PlanAndCrashWhileOff(t *testing.T) {
	d := darken(t, lit(t))
	before := d.Disk().Twin()
	for _, p := range []api.Plan{{}, {Off: 1}, {Off: 3, From: 1, To: 9}} {
		wantDone(t, d, planning(p))
		wantSameDisk(t, "plan while off", d.Disk(), before)
	}
	for kind := range each {
		if kind != api.StepPlan && kind != api.StepCrash {
			wantRefused(t, d, full(kind), api.ErrOff, api.ID{})
		}
	}
	wantDone(t, d, crash())
	if d.Disk().Off() {
		t.Fatal("it is off")
	}
	wantDone(t, d, write("q", "no plan is left")) // five strokes
	wantDone(t, d, crash(7))                      // while it is on
	wantAnswer(t, d, read("q"), api.Answer{Data: []byte("no plan is left")})
}

// Whatever is handed in, each call ends, and answers what the words say.
func TestW1_Whatever(t *testing.T) {
	texts := []string{"", "a", "x", times(1<<12, "\xff"), "\x00", "+c.a.import", "c.a.import", "f.x"}
	numbers := []int{-1 << 63, -1, 0, 1, 16, 4096, 1<<63 - 1}
	for kind := range each {
		for _, text := range texts {
			for _, n := range numbers {
				s := api.Step{Kind: kind, Cache: text, File: text, With: text, To: text, Data: []byte(text), ID: api.ID{byte(n)}, Result: api.Result{Code: n}, Size: n, Policy: n, Plan: api.Plan{Off: n, From: n, To: n}, Picks: []int{n, -n, n}, Actions: make([]api.ID, 300)}
				for k, d := range allDepots(t) {
					w := words{width: 8}
					if d.Disk() != nil {
						w.disk = d.Disk().Twin()
					}
					what := fmt.Sprint(name(s), " on ", k)
					wantAnswer(t, d, s, w.do(s))
					if d.Disk() != nil {
						wantSameDisk(t, what, d.Disk(), w.disk)
					}
				}
			}
		}
	}
}
