package table

import "freight/api"

// settle is what a policy makes of a conflict: the result that stays, or why
// there is none.
type settle func(ours, theirs api.Result) (api.Result, api.Errno)

// Join is the union of two tables by a policy; and the actions of which they have unlike results.
func Join(ours, theirs []api.Result, policy int) ([]api.Result, []api.ID, api.Errno) {
	policies := map[int]settle{
		api.Keep: func(ours, _ api.Result) (api.Result, api.Errno) { return ours, api.OK },
		api.Take: func(_, theirs api.Result) (api.Result, api.Errno) { return theirs, api.OK },
		api.Fail: func(_, _ api.Result) (api.Result, api.Errno) { return api.Result{}, api.ErrConflict },
	}
	chosen, known := policies[policy]
	if !known {
		return nil, nil, api.ErrArg
	}
	if !Valid(ours) || !Valid(theirs) {
		return nil, nil, api.ErrTable
	}
	u := unite(ours, theirs, chosen)
	if u.refused != api.OK {
		return nil, u.conflicts, u.refused
	}
	if len(u.results) > api.MaxActions {
		return nil, nil, api.ErrActions
	}
	return u.results, u.conflicts, api.OK
}

type union struct {
	results   []api.Result
	conflicts []api.ID
	refused   api.Errno
}

// unite goes along both tables at once, always on with the lesser action.
func unite(ours, theirs []api.Result, chosen settle) union {
	var u union
	for len(ours) > 0 && len(theirs) > 0 {
		order := compare(ours[0], theirs[0])
		switch {
		case order < 0:
			u.add(ours[0])
		case order > 0:
			u.add(theirs[0])
		default:
			u.addBoth(ours[0], theirs[0], chosen)
		}
		if order <= 0 {
			ours = ours[1:]
		}
		if order >= 0 {
			theirs = theirs[1:]
		}
	}
	u.add(ours...)
	u.add(theirs...)
	return u
}

func (u *union) add(results ...api.Result) {
	u.results = append(u.results, results...)
}

// addBoth goes on behind a conflict that is refused, as all of them are told.
func (u *union) addBoth(ours, theirs api.Result, chosen settle) {
	if ours == theirs {
		u.add(ours)
		return
	}
	u.conflicts = append(u.conflicts, ours.Action)
	result, errno := chosen(ours, theirs)
	if errno != api.OK {
		u.refused = errno
		return
	}
	u.add(result)
}
