package depot_test

import (
	"fmt"

	"freight/api"
)

// Steps of each kind.

func put(cache, data string) api.Step {
	return api.Step{Kind: api.StepPut, Cache: cache, Data: []byte(data)}
}

func set(cache string, r api.Result) api.Step {
	return api.Step{Kind: api.StepSet, Cache: cache, Result: r}
}

func drop(cache string, id api.ID) api.Step {
	return api.Step{Kind: api.StepDrop, Cache: cache, ID: id}
}

func get(cache string, id api.ID) api.Step {
	return api.Step{Kind: api.StepGet, Cache: cache, ID: id}
}

func telling(cache string) api.Step { return api.Step{Kind: api.StepCache, Cache: cache} }

func export(cache, file string, size int, actions ...api.ID) api.Step {
	return api.Step{Kind: api.StepExport, Cache: cache, File: file, Size: size, Actions: actions}
}

func taking(cache, file string, policy int) api.Step {
	return api.Step{Kind: api.StepImport, Cache: cache, File: file, Policy: policy}
}

func resume(cache string) api.Step { return api.Step{Kind: api.StepResume, Cache: cache} }

func abandon(cache string) api.Step { return api.Step{Kind: api.StepAbandon, Cache: cache} }

func restoring(cache, file string, policy int, actions ...api.ID) api.Step {
	return api.Step{Kind: api.StepRestore, Cache: cache, File: file, Policy: policy, Actions: actions}
}

func sign(file string, size int, to string) api.Step {
	return api.Step{Kind: api.StepSign, File: file, Size: size, To: to}
}

func differ(file, with, to string) api.Step {
	return api.Step{Kind: api.StepDelta, File: file, With: with, To: to}
}

func apply(file, with, to string) api.Step {
	return api.Step{Kind: api.StepApply, File: file, With: with, To: to}
}

func verify(file string) api.Step { return api.Step{Kind: api.StepVerify, File: file} }

func list(file string) api.Step { return api.Step{Kind: api.StepList, File: file} }

func write(file, data string) api.Step {
	return api.Step{Kind: api.StepWrite, File: file, Data: []byte(data)}
}

func read(file string) api.Step { return api.Step{Kind: api.StepRead, File: file} }

func erase(file string) api.Step { return api.Step{Kind: api.StepErase, File: file} }

func planning(p api.Plan) api.Step { return api.Step{Kind: api.StepPlan, Plan: p} }

func off(at int) api.Step { return planning(api.Plan{Off: at}) }

func crash(picks ...int) api.Step { return api.Step{Kind: api.StepCrash, Picks: picks} }

func hand(to, data string) api.Step {
	return api.Step{Kind: api.StepHand, To: to, Data: []byte(data)}
}

// The kinds, from the first to the last.
const (
	firstKind = 1
	lastKind  = 21
)

// row is a line of the chapter's table.
type row struct {
	name   string
	titles string // C: Cache, F: File, W: With, T: To
}

// rowOf is the line of a kind.
func rowOf(kind int) row {
	return [lastKind + 1]row{
		api.StepPut:     {"put", "C"},
		api.StepSet:     {"set", "C"},
		api.StepDrop:    {"drop", "C"},
		api.StepGet:     {"get", "C"},
		api.StepCache:   {"cache", "C"},
		api.StepExport:  {"export", "CF"},
		api.StepImport:  {"import", "CF"},
		api.StepResume:  {"resume", "C"},
		api.StepAbandon: {"abandon", "C"},
		api.StepRestore: {"restore", "CF"},
		api.StepSign:    {"sign", "FT"},
		api.StepDelta:   {"delta", "FWT"},
		api.StepApply:   {"apply", "FWT"},
		api.StepVerify:  {"verify", "F"},
		api.StepList:    {"list", "F"},
		api.StepWrite:   {"write", "F"},
		api.StepRead:    {"read", "F"},
		api.StepErase:   {"erase", "F"},
		api.StepPlan:    {"plan", ""},
		api.StepCrash:   {"crash", ""},
		api.StepHand:    {"hand", ""},
	}[kind]
}

// titled is one of a step's fields that may have a title.
func titled(s *api.Step, letter rune) *string {
	return map[rune]*string{'C': &s.Cache, 'F': &s.File, 'W': &s.With, 'T': &s.To}[letter]
}

// name: a step in words.
func name(s api.Step) string {
	if s.Kind < firstKind || s.Kind > lastKind {
		return fmt.Sprint("kind ", s.Kind)
	}
	return fmt.Sprintf("%s C%.12q F%.12q W%.12q T%.40q, %d bytes, id %x, %d actions, size %d, policy %d, plan %v, picks %v", rowOf(s.Kind).name, s.Cache, s.File, s.With, s.To, len(s.Data), s.ID[:4], len(s.Actions), s.Size, s.Policy, s.Plan, s.Picks[:min(len(s.Picks), 6)])
}
