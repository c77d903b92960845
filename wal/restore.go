package wal

import (
	"slices"

	"usance/api"
	"usance/frame"
)

// found is what the segments hold, up to the end or where the frames of one break off.
type found struct {
	records [][]byte
	count   int // segments that were read, the broken one too
	broken  bool
	whole   []byte // bytes of the broken one ahead of where it breaks off
}

// restore answers the records that the disk has, leaves no other segments on it than theirs, and lets them survive a crash; the log then writes behind them.
func (l *Log) restore() ([][]byte, api.Errno) {
	if errno := l.disk.Delete(l.temp()); errno != api.OK && errno != api.ErrNoFile {
		return nil, errno
	}
	numbers, errno := l.numbers()
	if errno != api.OK {
		return nil, errno
	}
	f, errno := l.read(numbers)
	if errno != api.OK {
		return nil, errno
	}
	left, beyond := numbers[:f.count], numbers[f.count:]
	if f.broken {
		if errno := l.cut(left[f.count-1], f.whole, beyond); errno != api.OK {
			return nil, errno
		}
	}
	// What is read ahead of a crash need not be synced yet; once answered here, it may not be lost.
	for _, number := range left {
		if errno := l.disk.Sync(l.name(number)); errno != api.OK {
			return nil, errno
		}
	}
	l.number = 1
	if len(left) > 0 {
		l.number = left[len(left)-1] + 1
	}
	return f.records, api.OK
}

// read goes over the segments up to the end or the first whose frames break off.
func (l *Log) read(numbers []int) (found, api.Errno) {
	var f found
segments:
	for _, number := range numbers {
		b, errno := l.disk.Read(l.name(number))
		if errno != api.OK {
			return found{}, errno
		}
		f.count++
		for at := 0; ; {
			record, next, errno := frame.Read(b, at)
			switch errno {
			case api.OK:
				f.records = append(f.records, record)
				at = next
			case api.ErrNone:
				continue segments
			default:
				f.broken, f.whole = true, b[:at]
				break segments
			}
		}
	}
	return f, api.OK
}

// cut leaves of a broken segment the bytes that are whole, and none of the segments beyond it.
func (l *Log) cut(number int, whole []byte, beyond []int) api.Errno {
	// The broken one comes last: as long as it is there, what a crash leaves beyond it isn't read.
	for _, number := range slices.Backward(beyond) {
		if errno := l.disk.Delete(l.name(number)); errno != api.OK {
			return errno
		}
	}
	if errno := l.disk.Append(l.temp(), whole); errno != api.OK {
		return errno
	}
	if errno := l.disk.Sync(l.temp()); errno != api.OK {
		return errno
	}
	return l.disk.Rename(l.temp(), l.name(number))
}
