package depot

import "freight/file"

func (c *call) plan() error {
	c.disk.Plan(c.step.Plan)
	return nil
}

// crash leaves no drafts. Clean does nothing where there are none.
func (c *call) crash() error {
	c.disk.Crash(c.step.Picks...)
	return file.Clean(c.disk, plus)
}
