package vdisk

import (
	"strings"

	"rankloft/api"
)

// do does an effect and counts it, unless the power fails ahead of it: then
// only what comes to the disk even so is done, and counts as none.
func (d *Disk) do(effect, evenSo func()) api.Errno {
	if d.armed.At == 1 {
		evenSo()
		d.Crash(d.armed.Keep)
		return api.ErrDown
	}
	d.armed.At = max(d.armed.At-1, 0)
	effect()
	d.effects.Add(1)
	return api.OK
}

// nothing is what comes to the disk of most effects that aren't done.
func nothing() {}

// find answers a file: ErrDown, if the power is off; ErrNone, if there is none.
func (d *Disk) find(name string) (file, api.Errno) {
	if d.down {
		return file{}, api.ErrDown
	}
	f, ok := d.files[name]
	if !ok {
		return file{}, api.ErrNone
	}
	return f, api.OK
}

// put keeps a file by a name of the disk's own: the one that is handed in may be
// a piece of something great.
func (d *Disk) put(name string, f file) {
	d.files[strings.Clone(name)] = f
}

// hasRoom tells whether n bytes more have room, and the file itself, if it is
// new.
func (d *Disk) hasRoom(name string, n int) bool {
	if _, ok := d.files[name]; !ok && len(d.files) >= api.MaxFiles {
		return false
	}
	return n <= d.quota-d.Used()
}

// isName tells whether s may be a file's name.
func isName(s string) bool { return len(s) >= 1 && len(s) <= api.MaxName }
