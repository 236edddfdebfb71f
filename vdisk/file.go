package vdisk

const bitsPerByte = 8

// file has bytes, of which the first ones are synced.
type file struct {
	bytes  []byte
	synced int
}

// add puts s behind all bytes.
func (f *file) add(s string) { f.bytes = append(f.bytes, s...) }

// sync makes all bytes last.
func (f *file) sync() { f.synced = len(f.bytes) }

// fail leaves the bytes that last when the power fails, if so many of those that
// aren't synced are kept.
func (f *file) fail(keep int) {
	tail := len(f.bytes) - f.synced
	f.bytes = f.bytes[:f.synced+min(max(keep, 0), tail)]
	f.sync()
}

// has tells whether there is such a bit.
func (f *file) has(bit int) bool {
	return bit >= 0 && bit/bitsPerByte < len(f.bytes)
}

// flip turns a bit that there is.
func (f *file) flip(bit int) {
	f.bytes[bit/bitsPerByte] ^= 1 << (bit % bitsPerByte)
}
