package file_test

import (
	"sort"
	"strings"

	"freight/api"
	"freight/disk"
)

// words does what the chapter lists, line by line, on a disk, and notes the
// strokes.
type words struct {
	disk    *disk.Disk
	strokes []string
}

func (w *words) stroke(text string, errno api.Errno) api.Errno {
	w.strokes = append(w.strokes, text)
	return errno
}

func (w *words) create(name string) api.Errno {
	return w.stroke("Create "+name, w.disk.Create(name))
}

func (w *words) append(name, data string) api.Errno {
	return w.stroke("Append "+name, w.disk.Append(name, []byte(data)))
}

func (w *words) sync(name string) api.Errno { return w.stroke("Sync "+name, w.disk.Sync(name)) }

func (w *words) rename(from, to string) api.Errno {
	return w.stroke("Rename "+from+" "+to, w.disk.Rename(from, to))
}

func (w *words) remove(name string) api.Errno { return w.stroke("Remove "+name, w.disk.Remove(name)) }

func (w *words) syncNames() api.Errno { return w.stroke("SyncNames", w.disk.SyncNames()) }

// isThere is asked of what the disk shows, not of its calls.
func (w *words) isThere(name string) bool {
	for _, f := range w.disk.Files() {
		if f.Name == name {
			return true
		}
	}
	return false
}

func isName(name string, most int) bool {
	return len(name) > 0 && len(name) <= most && strings.Trim(name, "abcdefghijklmnopqrstuvwxyz0123456789.-_+") == ""
}

func (w *words) put(name, data string) api.Errno {
	if !isName(name, 111) || name[0] == '+' {
		return api.ErrName
	}
	if w.disk.Off() {
		return api.ErrOff
	}
	removed := w.isThere("+" + name)
	if removed && w.remove("+"+name) == api.ErrOff {
		return api.ErrOff
	}
	switch errno := w.create("+" + name); errno {
	case api.ErrOff:
		return errno
	case api.ErrFull, api.ErrFiles:
		if removed && w.syncNames() == api.ErrOff {
			return api.ErrOff
		}
		return errno
	}
	switch w.append("+"+name, data) {
	case api.ErrOff:
		return api.ErrOff
	case api.ErrFull:
		if w.remove("+"+name) == api.ErrOff || w.syncNames() == api.ErrOff {
			return api.ErrOff
		}
		return api.ErrFull
	}
	if w.sync("+"+name) == api.ErrOff || w.rename("+"+name, name) == api.ErrOff || w.syncNames() == api.ErrOff {
		return api.ErrOff
	}
	return api.OK
}

func (w *words) get(name string) (string, api.Errno) {
	if !isName(name, 112) {
		return "", api.ErrName
	}
	if w.disk.Off() {
		return "", api.ErrOff
	}
	for _, f := range w.disk.Files() {
		if f.Name == name {
			return string(f.Data), api.OK
		}
	}
	return "", api.ErrNone
}

func (w *words) drop(name string) api.Errno {
	if _, errno := w.get(name); errno != api.OK {
		return errno
	}
	if w.remove(name) == api.ErrOff || w.syncNames() == api.ErrOff {
		return api.ErrOff
	}
	return api.OK
}

func (w *words) clean(prefix string) api.Errno {
	if w.disk.Off() {
		return api.ErrOff
	}
	var names []string
	for _, f := range w.disk.Files() {
		if len(f.Name) >= len(prefix) && f.Name[:len(prefix)] == prefix {
			names = append(names, f.Name)
		}
	}
	sort.Strings(names)
	for _, name := range names {
		if w.remove(name) == api.ErrOff {
			return api.ErrOff
		}
	}
	if len(names) > 0 {
		return w.syncNames()
	}
	return api.OK
}
