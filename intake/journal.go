package intake

import (
	"bytes"
	"errors"

	"freight/api"
	"freight/code"
	"freight/file"
	"freight/table"
)

const (
	mark      = 74 // the byte that a journal's form begins with
	markWidth = 1
	sumWidth  = 4
)

// isJournal asks for all but the range of the two sums, which a Writer refuses
// by itself.
func isJournal(j api.Journal) bool {
	return isName(j.Bundle) && table.Valid(j.Results) && isNeed(j.Need) && table.Valid(j.Table)
}

// isName asks Get, which says ErrName ahead of ErrOff: without a disk it reads
// nothing.
func isName(text string) bool {
	_, err := file.Get(nil, text)
	return !errors.Is(err, api.ErrName)
}

func isNeed(ids []api.ID) bool {
	if len(ids) > api.MaxBundle {
		return false
	}
	for k := 1; k < len(ids); k++ {
		if bytes.Compare(ids[k-1][:], ids[k][:]) >= 0 {
			return false
		}
	}
	return true
}

func write(j api.Journal) ([]byte, api.Errno) {
	var w code.Writer
	w.Fixed(mark, markWidth)
	w.Text([]byte(j.Bundle))
	w.Fixed(j.Entries, sumWidth)
	w.Fixed(j.Index, sumWidth)
	writeTable(&w, j.Results)
	w.Number(len(j.Need))
	for _, id := range j.Need {
		w.Raw(id[:])
	}
	writeTable(&w, j.Table)
	body, errno := w.Data()
	if errno != api.OK {
		return nil, errno
	}
	w.Fixed(code.Sum(body), sumWidth)
	return w.Data()
}

// writeTable writes what was found to be a table ahead of it.
func writeTable(w *code.Writer, results []api.Result) {
	form, _ := table.Encode(results)
	w.Text(form)
}

// read is the journal whose form the bytes are. Of bytes that are no form it is
// any other, which is not written so.
func read(data []byte) api.Journal {
	var j api.Journal
	r := code.Read(data)
	r.Fixed(markWidth)
	j.Bundle = string(r.Text(api.MaxName))
	j.Entries = r.Fixed(sumWidth)
	j.Index = r.Fixed(sumWidth)
	j.Results = readTable(r)
	// There may be said to be very many: those that are too many are not read.
	for range min(r.Number(), api.MaxBundle) {
		j.Need = append(j.Need, readID(r))
	}
	j.Table = readTable(r)
	return j
}

func readTable(r *code.Reader) []api.Result {
	results, _ := table.Parse(r.Text(r.Left()))
	return results
}

func readID(r *code.Reader) api.ID {
	var id api.ID
	copy(id[:], r.Raw(len(id)))
	return id
}
