package tree_test

import (
	"strings"
	"testing"

	"freight/api"
)

func TestExamples_Valid(t *testing.T) {
	for _, name := range []string{"a", "..a", "a b", " "} {
		wantValid(t, name, true)
	}
	for _, name := range []string{"", ".", "..", "a/b", "\x7f", "\xc3", strings.Repeat("n", 33)} {
		wantValid(t, name, false)
	}
}

func TestExamples_Encode(t *testing.T) {
	i := idOf(7)
	wantEncoded(t, nil, unhex(t, "54 00"))
	wantEncoded(t, []api.Entry{{Name: "a", Kind: api.KindFile, ID: i}}, unhex(t, "54 01 01 01 61"+strings.Repeat("07", 32)))
	wantNotEncoded(t, "falling", []api.Entry{{Name: "b", Kind: api.KindFile, ID: i}, {Name: "a", Kind: api.KindRun, ID: i}})
	wantNotEncoded(t, "like", []api.Entry{{Name: "a", Kind: api.KindFile, ID: i}, {Name: "a", Kind: api.KindRun, ID: i}})
	wantNotEncoded(t, "kind", []api.Entry{{Name: "a", Kind: 4, ID: i}})

	three := []api.Entry{{Name: "a", Kind: api.KindFile, ID: i}, {Name: "a-", Kind: api.KindRun, ID: i}, {Name: "aa", Kind: api.KindFolder, ID: i}}
	sevens := strings.Repeat("07", 32)
	wantEncoded(t, three, unhex(t, "54 03 01 01 61"+sevens+"02 02 61 2d"+sevens+"03 02 61 61"+sevens))
	wantParsed(t, mustEncode(t, three), three)
}

func TestExamples_Parse(t *testing.T) {
	for _, text := range []string{"", "54", "54 00 00", "55 00", "54 80 00"} {
		wantNotParsed(t, text, unhex(t, text))
	}
	wantParsed(t, unhex(t, "54 00"), nil)
}
