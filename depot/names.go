package depot

import (
	"strings"

	"freight/api"
)

const (
	titleBytes  = "abcdefghijklmnopqrstuvwxyz0123456789-"
	cachePrefix = "c."
	filePrefix  = "f."
	plus        = "+" // begins the name of what a Put left when the power went off
)

// isTitle tells whether a cache or a file of a depot may be called so. It has
// no dot, so that it ends where a file's name goes on.
func isTitle(text string) bool {
	if len(text) < 1 || len(text) > api.MaxTitle {
		return false
	}
	for i := range len(text) {
		if strings.IndexByte(titleBytes, text[i]) < 0 {
			return false
		}
	}
	return true
}

func fileName(title string) string { return filePrefix + title }

// cacheOf is the cache whose file has that name; false, if it is none's.
func cacheOf(name string) (string, bool) {
	title, _, is := strings.Cut(strings.TrimPrefix(name, cachePrefix), ".")
	return title, is && isTitle(title)
}
