package store

import (
	"maps"

	"rankloft/api"
	"rankloft/pack"
)

// readManifest takes the disk's manifest; without one, the first log is 0, and
// there are no segments.
func (s *Store) readManifest() api.Errno {
	text, e := s.disk.Read(manifestName)
	if e == api.ErrNone {
		return api.OK
	}
	m, ok := parseManifest(text)
	if !ok {
		return api.ErrCorrupt
	}
	s.man = m
	return api.OK
}

// readSegments takes all changes of the manifest's segments.
func (s *Store) readSegments() api.Errno {
	for _, n := range s.man.segments {
		// Of a segment that isn't there no text is answered, which is none.
		text, _ := s.disk.Read(segmentName(n))
		l, ok := parseSegment(text)
		if !ok {
			return api.ErrCorrupt
		}
		for _, c := range l {
			s.settled.do(c)
		}
	}
	maps.Copy(s.live, s.settled)
	return api.OK
}

// readLogs takes the changes of the logs, up to a number of which there is none:
// that is where the next change goes, as behind a frame that isn't whole none
// would be told.
func (s *Store) readLogs() {
	s.log = s.man.first
	for {
		text, e := s.disk.Read(logName(s.log))
		if e != api.OK {
			return
		}
		s.readLog(text)
		s.log++
	}
}

// readLog takes a log's changes as far as its frames are whole.
func (s *Store) readLog(text string) {
	r := pack.New(text)
	for {
		c, ok := takeFrame(r)
		if !ok {
			return
		}
		s.take(c)
	}
}
