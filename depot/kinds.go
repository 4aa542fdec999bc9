package depot

import (
	"slices"

	"freight/api"
	"freight/disk"
)

// field is one of a step's that has a title.
type field int

const (
	cacheField field = iota
	fileField
	withField
	toField
)

func (f field) of(s api.Step) string {
	switch f {
	case cacheField:
		return s.Cache
	case fileField:
		return s.File
	case withField:
		return s.With
	}
	return s.To
}

// kind is a row of the table of steps.
type kind struct {
	number int
	titles []field
	do     func(*call) error
}

// kinds is the table of steps.
func kinds() []kind {
	onCache := []field{cacheField}
	onBoth := []field{cacheField, fileField}
	onFile := []field{fileField}
	toThird := []field{fileField, withField, toField}
	return []kind{
		{api.StepPut, onCache, (*call).put},
		{api.StepSet, onCache, (*call).set},
		{api.StepDrop, onCache, (*call).drop},
		{api.StepGet, onCache, (*call).get},
		{api.StepCache, onCache, (*call).tellCache},
		{api.StepExport, onBoth, (*call).export},
		{api.StepImport, onBoth, (*call).takeIn},
		{api.StepResume, onCache, (*call).resume},
		{api.StepAbandon, onCache, (*call).abandon},
		{api.StepRestore, onBoth, (*call).restore},
		{api.StepSign, []field{fileField, toField}, (*call).sign},
		{api.StepDelta, toThird, (*call).delta},
		{api.StepApply, toThird, (*call).apply},
		{api.StepVerify, onFile, (*call).verify},
		{api.StepList, onFile, (*call).list},
		{api.StepWrite, onFile, (*call).write},
		{api.StepRead, onFile, (*call).read},
		{api.StepErase, onFile, (*call).erase},
		{api.StepPlan, nil, (*call).plan},
		{api.StepCrash, nil, (*call).crash},
		{api.StepHand, nil, (*call).hand},
	}
}

func kindOf(number int) (kind, bool) {
	for _, k := range kinds() {
		if k.number == number {
			return k, true
		}
	}
	return kind{}, false
}

// refused is what stands ahead of all that the kind does.
func (k kind) refused(s api.Step, d *disk.Disk) api.Errno {
	for _, f := range k.titles {
		if !isTitle(f.of(s)) {
			return api.ErrName
		}
	}
	if k.number == api.StepWrite && len(s.Data) > api.MaxFile {
		return api.ErrLong
	}
	if d == nil || d.Off() && k.asksForPower() {
		return api.ErrOff
	}
	return api.OK
}

// asksForPower is false of the kinds that say when the power goes off, and on
// again.
func (k kind) asksForPower() bool {
	return k.number != api.StepPlan && k.number != api.StepCrash
}

// carryOut opens the cache first, if the kind has one.
func (k kind) carryOut(c *call) error {
	if slices.Contains(k.titles, cacheField) {
		if err := c.open(); err != nil {
			return err
		}
	}
	return k.do(c)
}
