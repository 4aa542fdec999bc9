package digest

import "freight/api"

const digits = "0123456789abcdef"

// Hex is an id in hex.
func Hex(id api.ID) string {
	var text [2 * len(id)]byte
	for i, b := range id {
		text[2*i] = digits[b>>4]
		text[2*i+1] = digits[b&15]
	}
	return string(text[:])
}

// Parse reads it again.
func Parse(text string) (api.ID, api.Errno) {
	var id api.ID
	if len(text) != 2*len(id) {
		return api.ID{}, api.ErrHex
	}
	for i := range id {
		high, low := digit(text[2*i]), digit(text[2*i+1])
		if high < 0 || low < 0 {
			return api.ID{}, api.ErrHex
		}
		id[i] = byte(high<<4 | low)
	}
	return id, api.OK
}

// digit is the number that a digit stands for; below 0, if the sign is none.
func digit(sign byte) int {
	switch {
	case '0' <= sign && sign <= '9':
		return int(sign - '0')
	case 'a' <= sign && sign <= 'f':
		return int(sign-'a') + 10
	}
	return -1
}

// Compare tells which of two ids is ahead: -1, 0, 1.
func Compare(a, b api.ID) int {
	for i := range a {
		switch {
		case a[i] < b[i]:
			return -1
		case a[i] > b[i]:
			return 1
		}
	}
	return 0
}
