package vdisk

import (
	"bytes"

	"usance/api"
)

// Append puts bytes behind the file's, a new file's if there is none; or answers ErrNil, ErrCrashed, ErrFileName, ErrFull.
func (d *Disk) Append(name string, b []byte) api.Errno {
	if errno := d.ready(name); errno != api.OK {
		return errno
	}
	// The files may have more bytes than there is room for already: then none at all are too many, too.
	if d.room >= 0 && len(b) > d.room-d.size {
		return api.ErrFull
	}
	if errno := d.step(); errno != api.OK {
		return errno
	}
	f := d.files[name]
	if f == nil {
		f = &file{}
		d.put(name, f)
	}
	f.data = append(f.data, b...)
	d.size += len(b)
	return api.OK
}

// Sync lets all bytes of the file survive a crash, or answers ErrNil, ErrCrashed, ErrFileName, ErrNoFile.
func (d *Disk) Sync(name string) api.Errno {
	f, errno := d.change(name)
	if errno != api.OK {
		return errno
	}
	f.synced = len(f.data)
	return api.OK
}

// Rename gives the file another name, from which it takes a file away; or answers ErrNil, ErrCrashed, ErrFileName, ErrNoFile.
func (d *Disk) Rename(from, to string) api.Errno {
	// Ahead of asking for a file: a wrong name is told first.
	if errno := d.ready(from, to); errno != api.OK {
		return errno
	}
	f, errno := d.change(from)
	if errno != api.OK {
		return errno
	}
	// Taken away ahead of being put, as the names may be one.
	d.take(from)
	d.take(to)
	d.put(to, f)
	return api.OK
}

// Delete takes the file away, or answers ErrNil, ErrCrashed, ErrFileName, ErrNoFile.
func (d *Disk) Delete(name string) api.Errno {
	if _, errno := d.change(name); errno != api.OK {
		return errno
	}
	d.take(name)
	return api.OK
}

// Revive begins anew, with another plan, as behind a crash: of the bytes that aren't synced the old plan tells which are left. Or it answers ErrNil.
func (d *Disk) Revive(p api.Plan) api.Errno {
	if d == nil {
		return api.ErrNil
	}
	loose := 0 // files with bytes that aren't synced, by now
	for _, name := range d.names() {
		f := d.files[name]
		if lost := len(f.data) - f.synced; lost > 0 {
			lost -= d.survive(loose, lost)
			loose++
			d.size -= lost
			f.data = bytes.Clone(f.data[:len(f.data)-lost])
			f.synced = len(f.data)
		}
	}
	d.begin(p)
	return api.OK
}

// survive answers how many of so many bytes are left, which aren't synced, of the file with that place among those that have some.
func (d *Disk) survive(place, most int) int {
	if place >= len(d.keep) {
		return 0
	}
	ways := most + 1
	// What % answers has the sign of the number that is divided.
	return (d.keep[place]%ways + ways) % ways
}

// change answers the file of that name for a change that is then done, or what hinders it.
func (d *Disk) change(name string) (*file, api.Errno) {
	f, errno := d.find(name)
	if errno != api.OK {
		return nil, errno
	}
	if errno := d.step(); errno != api.OK {
		return nil, errno
	}
	return f, api.OK
}

// step counts a change that may be done, or crashes if the plan has none left.
func (d *Disk) step() api.Errno {
	if d.left == 0 {
		d.crashed = true
		return api.ErrCrashed
	}
	if d.left > 0 {
		d.left--
	}
	return api.OK
}
