package cache

import (
	"strings"

	"freight/api"
	"freight/digest"
)

const titleBytes = "abcdefghijklmnopqrstuvwxyz0123456789-"

// isTitle tells whether it is a name of a cache. It has no dot, so that no
// cache's files are among those of one whose name begins alike.
func isTitle(text string) bool {
	if len(text) < 1 || len(text) > api.MaxTitle {
		return false
	}
	for i := range len(text) {
		if strings.IndexByte(titleBytes, text[i]) < 0 {
			return false
		}
	}
	return true
}

func (c *Cache) prefix() string { return "c." + c.Name() + "." }

// draftPrefix begins the names that a Put uses until its file is whole.
func (c *Cache) draftPrefix() string { return "+" + c.prefix() }

func (c *Cache) tableFile() string { return c.prefix() + "table" }

func (c *Cache) importFile() string { return c.prefix() + "import" }

func (c *Cache) blobPrefix() string { return c.prefix() + "b." }

func (c *Cache) blobFile(id api.ID) string { return c.blobPrefix() + digest.Hex(id) }

// fits tells whether an id is one of this width: no other names a blob here,
// though there be a file of such a name.
func (c *Cache) fits(id api.ID) bool {
	var cut api.ID
	copy(cut[:c.width], id[:])
	return cut == id
}

// blobOf is the id that a file's name tells; false, if it is nobody's.
func (c *Cache) blobOf(name string) (api.ID, bool) {
	id, errno := digest.Parse(strings.TrimPrefix(name, c.blobPrefix()))
	return id, errno == api.OK && c.fits(id)
}
