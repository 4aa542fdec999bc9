package depot_test

import (
	"slices"
	"strings"
	"sync"
	"testing"

	"freight/api"
)

// looks are the kinds that only look.
func looks(kind int) bool {
	return slices.Contains([]int{api.StepGet, api.StepCache, api.StepVerify, api.StepList, api.StepRead}, kind)
}

// Each kind that only looks, asked twice: the same answer, no stroke but those of
// opening a cache, the disk as it was; whether it is refused or not.
func TestP19_6_Looks(t *testing.T) {
	steps := map[string]scene{}
	for what, x := range scenes() {
		if looks(x.step.Kind) {
			steps[what] = x
		}
	}
	for kind, list := range refusals() {
		for _, r := range list {
			if looks(r.step.Kind) {
				steps[kind+" "+r.want.code.Error()] = scene{r.files, r.step}
			}
		}
	}
	if len(steps) < 12 {
		t.Fatalf("%d scenes", len(steps))
	}
	for what, x := range steps {
		d := x.load(t)
		var want []api.FileBytes
		strokes := 0
		for _, f := range x.files {
			if strings.HasPrefix(f.Name, "+c.a.") && strings.Contains(rowOf(x.step.Kind).titles, "C") {
				strokes++
				continue
			}
			want = append(want, f)
		}
		if strokes > 0 {
			strokes++ // SyncNames
		}
		first := d.Do(x.step)
		for range 3 {
			if again := d.Do(x.step); !sameAnswer(again, first) {
				t.Errorf("%s: %s, then %s", what, brief(first), brief(again))
			}
		}
		if d.Disk().Strokes() != strokes {
			t.Errorf("%s: %d strokes, want %d", what, d.Disk().Strokes(), strokes)
		}
		if !sameFiles(d.Disk().Files(), load(t, 8, api.MaxRoom, want...).Disk().Files()) || !sameFiles(d.Disk().Files(), d.Disk().Safe()) {
			t.Errorf("%s: %s", what, show(d.Disk().Files()))
		}
	}
}

// A look is one whatever the plan says: it has no stroke that could be cut off.
func TestP19_6_LooksUnderAPlan(t *testing.T) {
	for what, x := range scenes() {
		if !looks(x.step.Kind) || strings.Contains(what, "opening") {
			continue
		}
		d := x.load(t)
		want := d.Do(x.step)
		for _, p := range []api.Plan{{Off: 1}, {From: 1, To: 99}} {
			wantDone(t, d, planning(p))
			wantAnswer(t, d, x.step, want)
		}
		if d.Disk().Off() || d.Disk().Strokes() != 0 {
			t.Errorf("%s: off, or %d strokes", what, d.Disk().Strokes())
		}
	}
}

// The same step on two depots of one width whose disks are alike, whatever has led to
// them: one was loaded, one has gone through a script.
func TestP19_6_TwoDepots(t *testing.T) {
	r := noise()
	for i := range 40 {
		s := newScript(t, []int{1, 32}[i%2], api.MaxRoom)
		for range 25 {
			s.depot.Do(s.drawn(r.IntN))
		}
		wantDone(t, s.depot, crash(r.IntN(9), r.IntN(90), r.IntN(90)))
		for range 12 {
			step := s.drawn(r.IntN)
			one := twin(t, s.depot, s.width)
			other := load(t, s.width, api.MaxRoom, s.depot.Disk().Files()...)
			first, second := one.Do(step), other.Do(step)
			if !sameAnswer(first, second) {
				t.Fatalf("%s: %s and %s", name(step), brief(first), brief(second))
			}
			if !sameFiles(one.Disk().Files(), other.Disk().Files()) || !sameFiles(one.Disk().Safe(), other.Disk().Safe()) || one.Disk().Off() != other.Disk().Off() {
				t.Fatalf("%s: %s and %s", name(step), show(one.Disk().Files()), show(other.Disk().Files()))
			}
			if !slices.Equal(one.Caches(), other.Caches()) {
				t.Fatalf("%s: %q and %q", name(step), one.Caches(), other.Caches())
			}
		}
	}
}

// The same script on two depots, and side by side on many.
func TestP19_6_TheSameScript(t *testing.T) {
	for _, width := range []int{1, 32} {
		r := noise()
		s := newScript(t, width, 16000)
		var steps []api.Step
		for range 120 {
			steps = append(steps, s.drawn(r.IntN), crash(r.IntN(9), r.IntN(90)))
		}
		var answers []api.Answer
		for _, step := range steps {
			answers = append(answers, s.depot.Do(step))
		}
		var all sync.WaitGroup
		for k := range 8 {
			other := newScript(t, width, 16000)
			all.Go(func() {
				for i, step := range steps {
					if got := other.depot.Do(step); !sameAnswer(got, answers[i]) {
						t.Errorf("%d: %s: %s, want %s", k, name(step), brief(got), brief(answers[i]))
					}
				}
				if !sameFiles(other.depot.Disk().Files(), s.depot.Disk().Files()) {
					t.Errorf("%d: unlike files", k)
				}
			})
		}
		all.Wait()
	}
}

// Refused or not, the same step again and again on like disks has one answer.
func TestW2_AsOftenAsItIsAsked(t *testing.T) {
	for what, x := range scenes() {
		first := x.load(t)
		want := first.Do(x.step)
		for range 5 {
			d := x.load(t)
			wantAnswer(t, d, x.step, want)
			wantSameDisk(t, what, d.Disk(), first.Disk())
		}
	}
}

// A nil list and an empty one are the same.
func TestW5_NilAndEmpty(t *testing.T) {
	for kind := range each {
		s, empty := full(kind), full(kind)
		s.Data, s.Actions, s.Picks = nil, nil, nil
		empty.Data, empty.Actions, empty.Picks = []byte("hi")[:0], acts(1)[:0], []int{1}[:0]
		one, other := lit(t), lit(t)
		wantAnswer(t, other, empty, one.Do(s))
		wantSameDisk(t, rowOf(kind).name, other.Disk(), one.Disk())
	}
}
