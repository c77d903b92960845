package lsm

import (
	"usance/api"
	"usance/vdisk"
	"usance/wal"
)

const (
	prefix = "w"
	// Each write has a segment of its own: of one that a crash broke nothing is whole, so that it needs no room to be mended.
	segment = 1
	// As the log begins anew when it is let go.
	firstSegment = 1
)

func openLog(d *vdisk.Disk) (*wal.Log, [][]byte, api.Errno) {
	return wal.Open(d, prefix, segment)
}

// lasting puts a record into the log, for good.
func (s *Store) lasting(record []byte) api.Errno {
	if s.crashed {
		return api.ErrCrashed
	}
	if errno := s.log.Append(record); errno != api.OK {
		return errno
	}
	return s.log.Sync()
}

// freshLog deletes all that the log has and answers one that begins anew, so that the numbers of segments don't run out.
func (s *Store) freshLog() (*wal.Log, api.Errno) {
	if s.crashed {
		return nil, api.ErrCrashed
	}
	log := s.log
	// A log doesn't let go of the segment that it writes to; the one that is opened behind it, which writes to none of those that there are, does.
	for range 2 {
		if errno := log.Drop(log.Segment()); errno != api.OK {
			return nil, errno
		}
		var errno api.Errno
		if log, _, errno = openLog(s.disk); errno != api.OK {
			return nil, errno
		}
	}
	return log, api.OK
}
