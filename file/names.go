package file

import (
	"strings"

	"freight/api"
)

// plus begins the name of a draft, so none that is put begins with it.
const plus = "+"

const nameBytes = "abcdefghijklmnopqrstuvwxyz0123456789.-_" + plus

// isName tells whether a disk may have it as a name: what the arguments say
// stands ahead of the power, which a disk's own calls look at first.
func isName(text string) bool {
	if len(text) < 1 || len(text) > api.MaxName {
		return false
	}
	for i := range len(text) {
		if strings.IndexByte(nameBytes, text[i]) < 0 {
			return false
		}
	}
	return true
}

// isPutName tells whether both it and its draft's are names, and it is no
// draft's.
func isPutName(text string) bool {
	return isName(text) && isName(plus+text) && !strings.HasPrefix(text, plus)
}
