package depot

import (
	"freight/api"
	"freight/bundle"
	"freight/delta"
	"freight/file"
	"freight/reader"
)

// bytesOf is all of a file of the depot.
func (c *call) bytesOf(title string) ([]byte, error) {
	return file.Get(c.disk, fileName(title))
}

// lay puts what was made as the file that the step names for it. Of what was not
// made nothing is put.
func (c *call) lay(data []byte, errno api.Errno) error {
	if errno != api.OK {
		return errno
	}
	return file.Put(c.disk, fileName(c.step.To), data)
}

func (c *call) sign() error {
	base, err := c.bytesOf(c.step.File)
	if err != nil {
		return err
	}
	signature, errno := delta.Sign(c.width, base, c.step.Size)
	if errno != api.OK {
		return errno
	}
	return c.lay(delta.Encode(signature))
}

// delta asks for the target only where there is a signature.
func (c *call) delta() error {
	form, err := c.bytesOf(c.step.File)
	if err != nil {
		return err
	}
	signature, errno := delta.Decode(form)
	if errno != api.OK {
		return errno
	}
	target, err := c.bytesOf(c.step.With)
	if err != nil {
		return err
	}
	return c.lay(delta.Make(signature, target))
}

func (c *call) apply() error {
	base, err := c.bytesOf(c.step.File)
	if err != nil {
		return err
	}
	form, err := c.bytesOf(c.step.With)
	if err != nil {
		return err
	}
	return c.lay(delta.Apply(base, form))
}

func (c *call) verify() error {
	data, err := c.bytesOf(c.step.File)
	if err != nil {
		return err
	}
	face, err := bundle.Verify(data, c.width)
	if err != nil {
		return err
	}
	c.tell(face)
	return nil
}

func (c *call) list() error {
	r, err := reader.Open(c.disk, fileName(c.step.File), c.width)
	if err != nil {
		return err
	}
	c.tell(r.Face())
	return nil
}

func (c *call) tell(face api.Face) {
	c.answer.Results, c.answer.Blobs = face.Results, face.Blobs
}

func (c *call) write() error {
	return file.Put(c.disk, fileName(c.step.File), c.step.Data)
}

func (c *call) read() error {
	data, err := c.bytesOf(c.step.File)
	c.answer.Data = data
	return err
}

func (c *call) erase() error { return file.Drop(c.disk, fileName(c.step.File)) }

// hand knows nothing of caches and titles: it lays whatever a Put takes.
func (c *call) hand() error { return file.Put(c.disk, c.step.To, c.step.Data) }
