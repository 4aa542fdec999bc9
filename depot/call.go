package depot

import (
	"errors"

	"freight/api"
	"freight/cache"
	"freight/disk"
)

// call is a step while it is carried out: what its kind does is one of the
// methods, which fills the answer. It counts only if nothing was refused.
type call struct {
	disk   *disk.Disk
	width  int
	step   api.Step
	cache  *cache.Cache // once it is open, of a kind that has one
	answer api.Answer
}

func (c *call) open() error {
	opened, err := cache.Open(c.disk, c.step.Cache, c.width)
	c.cache = opened
	return err
}

// refusal is what is answered of an error: its number, and the id that its
// fault names.
func refusal(err error) api.Answer {
	var answer api.Answer
	errors.As(err, &answer.Code)
	var fault *api.Fault
	if errors.As(err, &fault) {
		answer.ID = fault.ID
	}
	return answer
}
