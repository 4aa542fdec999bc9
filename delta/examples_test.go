package delta_test

import (
	"bytes"
	"testing"

	"freight/api"
	"freight/code"
	"freight/delta"
)

func TestExamplesNoSign(t *testing.T) {
	wantNoSign(t, 0, row("ABx"), 16, api.ErrArg)
	wantNoSign(t, 32, row("ABx"), 15, api.ErrArg)
	wantNoSign(t, 32, times(131073, 'x'), 16, api.ErrLong)
	wantNoSign(t, 32, times(32784, 'x'), 16, api.ErrParts)
}

func TestExamplesSign(t *testing.T) {
	if s := mustSign(t, 32, row("ABx"), 16); s.Length != 33 || len(s.Blocks) != 2 {
		t.Errorf("%s", shownSignature(s))
	}
}

func TestExamplesMake(t *testing.T) {
	x, y := []byte("x"), []byte("y")
	of := mustSign(t, 32, row("ABx"), 16)
	wantSteps(t, "ABx to nothing", of, nil)
	wantSteps(t, "ABx to itself", of, row("ABx"), cop(0, 2), lit(x))
	wantSteps(t, "ABx to BA", of, row("BA"), cop(1, 1), cop(0, 1))
	wantSteps(t, "ABx to xAy", of, row("xAy"), lit(x), cop(0, 1), lit(y))

	of = mustSign(t, 32, row("AAB"), 16)
	wantSteps(t, "AAB to AB", of, row("AB"), cop(0, 1), cop(2, 1))
	wantSteps(t, "AAB to AAA", of, row("AAA"), cop(0, 2), cop(0, 1))
	wantSteps(t, "AAB to BB", of, row("BB"), cop(2, 1), cop(2, 1))

	wantSteps(t, "nothing to A", mustSign(t, 32, nil, 16), row("A"), lit(row("A")))
	wantNoMake(t, "the zero Signature", api.Signature{}, row("A"), api.ErrDelta)
}

func TestExamplesApply(t *testing.T) {
	data := mustMake(t, mustSign(t, 32, row("ABx"), 16), row("xAy"))
	wantMade(t, "ABx", row("ABx"), data, row("xAy"))
	wantNoApply(t, "AB", row("AB"), data, api.ErrBase)
	wantNoApply(t, "ABy", row("ABy"), data, api.ErrBase)
	wantNoApply(t, "of nothing", row("ABx"), nil, api.ErrDelta)
	wantNoApply(t, "of nothing, to nothing", nil, nil, api.ErrDelta)
	for b := range 256 {
		wantNoApply(t, "a byte behind it", row("ABx"), append(bytes.Clone(data), byte(b)), api.ErrDelta)
	}
}

func TestExamplesEncode(t *testing.T) {
	data, errno := delta.Encode(mustSign(t, 1, nil, 16))
	want := []byte{0x53, 0x01, 0x10, 0x00, 0xe3} // the digest of no bytes begins with e3
	sum := code.Sum(want)
	want = append(want, byte(sum>>24), byte(sum>>16), byte(sum>>8), byte(sum))
	if errno != api.OK || !bytes.Equal(data, want) {
		t.Errorf("% x, %d, want % x", data, errno, want)
	}
}
