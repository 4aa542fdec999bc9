package disk

import "freight/api"

// Plan says when the power goes off and when there is no room, in strokes from now on.
func (d *Disk) Plan(p api.Plan) {
	if d.Off() {
		return
	}
	d.plan, d.planned = p, 0
}

// Crash puts the power off and on again: what picks say is left.
func (d *Disk) Crash(picks ...int) {
	if d.isNone() {
		return
	}
	d.names.crash(pickAt(picks, 0))
	for i, name := range d.names.shown.rising() {
		d.names.shown[name].crash(pickAt(picks, i+1))
	}
	d.on = true
	d.strokes = 0
	d.plan, d.planned = api.Plan{}, 0
}

func pickAt(picks []int, i int) int {
	if i < len(picks) {
		return picks[i]
	}
	return 0
}

// round is a pick counted round a number: 0 to that number.
func round(pick, number int) int {
	count := number + 1
	return (pick%count + count) % count
}
