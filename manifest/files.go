package manifest

import (
	"slices"

	"usance/api"
)

// The file current holds the name of another one, which holds the version. A change writes a new file and then lets current name it, by a rename, so that one of the two versions is named whenever the disk crashes, and what is named is whole.

// files answers the names of the manifest's files that have numbers.
func (m *Manifest) files() ([]string, api.Errno) {
	names, errno := m.disk.List()
	if errno != api.OK {
		return nil, errno
	}
	return slices.DeleteFunc(names, func(name string) bool { return !isFile(name) }), api.OK
}

// load takes the version from the file that current names and answers that name; where there is no current there is none, and the version stays.
func (m *Manifest) load() (string, api.Errno) {
	b, errno := m.disk.Read(current)
	if errno == api.ErrNoFile {
		return "", api.OK
	}
	if errno != api.OK {
		return "", errno
	}
	name, ok := unpackName(b)
	if !ok {
		return "", api.ErrCorrupt
	}
	b, errno = m.disk.Read(name)
	if errno == api.ErrNoFile {
		return "", api.ErrCorrupt
	}
	if errno != api.OK {
		return "", errno
	}
	v, ok := unpack(b)
	if !ok {
		return "", api.ErrCorrupt
	}
	m.version = v
	return name, api.OK
}

// settle syncs current and the file that it names, if there are any, and deletes the others.
func (m *Manifest) settle(named string, files []string) api.Errno {
	if named != "" {
		if errno := m.disk.Sync(named); errno != api.OK {
			return errno
		}
		if errno := m.disk.Sync(current); errno != api.OK {
			return errno
		}
	}
	return m.remove(slices.DeleteFunc(files, func(name string) bool { return name == named }))
}

// store lets current name a new file that holds the version.
func (m *Manifest) store(v api.Version) api.Errno {
	// Asked anew: a crash may have left files since the manifest was opened.
	old, errno := m.files()
	if errno != api.OK {
		return errno
	}
	named := unused(old)
	if errno := m.write(named, pack(v)); errno != api.OK {
		return errno
	}
	naming := unused(append(old, named))
	if errno := m.write(naming, packName(named)); errno != api.OK {
		// There was room for the one, and there may be none for the other: then neither may stay.
		if worse := m.disk.Delete(named); worse != api.OK {
			return worse
		}
		return errno
	}
	if errno := m.disk.Rename(naming, current); errno != api.OK {
		return errno
	}
	return m.remove(old)
}

// write makes a new file of the bytes, synced.
func (m *Manifest) write(name string, b []byte) api.Errno {
	if errno := m.disk.Append(name, b); errno != api.OK {
		return errno
	}
	return m.disk.Sync(name)
}

func (m *Manifest) remove(names []string) api.Errno {
	for _, name := range names {
		if errno := m.disk.Delete(name); errno != api.OK {
			return errno
		}
	}
	return api.OK
}
