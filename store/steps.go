package store

import "rankloft/api"

// inOrder does steps one behind the other, as long as none has an error.
func inOrder(steps ...func() api.Errno) api.Errno {
	for _, step := range steps {
		if e := step(); e != api.OK {
			return e
		}
	}
	return api.OK
}

// act does the steps of an act; if the power fails, the store is lost.
func (s *Store) act(steps ...func() api.Errno) api.Errno {
	e := inOrder(steps...)
	if e == api.ErrDown {
		s.lose()
	}
	return e
}

// lose leaves nothing that the store could tell.
func (s *Store) lose() {
	clear(s.live)
	clear(s.settled)
	clear(s.came)
	s.man = manifest{}
	s.lost = true
}

// write puts text behind a file's bytes so that it lasts.
func (s *Store) write(name, text string) api.Errno {
	return inOrder(
		func() api.Errno { return s.disk.Append(name, text) },
		func() api.Errno { return s.disk.Sync(name) },
	)
}

// replace writes the last segment of a manifest that isn't the disk's yet, and
// makes it the disk's: ErrFull, if there is no number left for it.
func (s *Store) replace(next manifest, l changes) api.Errno {
	text, ok := next.print()
	if !ok {
		return api.ErrFull
	}
	return s.act(
		// What lies there of an act that was cut may have the names to come.
		s.clearFiles,
		func() api.Errno { return s.write(segmentName(next.lastSegment()), l.print()) },
		func() api.Errno { return s.swap(text) },
		func() api.Errno {
			s.man = next
			return s.clearFiles()
		},
	)
}

// swap makes text the disk's manifest at once: whenever the power fails, the disk
// has the old one or the new one, whole.
func (s *Store) swap(text string) api.Errno {
	return inOrder(
		func() api.Errno { return s.write(newName, text) },
		func() api.Errno { return s.disk.Rename(newName, manifestName) },
	)
}

// clearFiles removes the files that play no part beside the manifest, by rising
// names.
func (s *Store) clearFiles() api.Errno {
	var steps []func() api.Errno
	for _, name := range s.disk.List() {
		if s.man.drops(name) {
			steps = append(steps, func() api.Errno { return s.disk.Remove(name) })
		}
	}
	return inOrder(steps...)
}
