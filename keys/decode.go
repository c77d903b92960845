package keys

import (
	"usance/api"
)

// broken is thrown where the bytes stop being a row: however deep in a part, the whole is given up.
type broken struct {
	errno api.Errno
}

// reader goes over the bytes of a row, and throws a broken at the first fault.
type reader struct {
	rest []byte
}

// Decode answers the row whose form b is, or ErrTorn, ErrCorrupt, ErrLong, ErrKey.
func Decode(b []byte) (parts []api.Part, errno api.Errno) {
	defer func() {
		thrown := recover()
		if thrown == nil {
			return
		}
		why, ok := thrown.(broken)
		if !ok {
			// Not the bytes' fault: to answer an error for it would hide one of the program.
			panic(thrown)
		}
		parts, errno = nil, why.errno
	}()
	r := reader{b}
	row := r.row()
	if isLong(row) {
		return nil, api.ErrLong
	}
	// A row has one form only, so b is its form.
	if !isKey(b) {
		return nil, api.ErrKey
	}
	return row, api.OK
}

// row reads to the end even if there are too many parts, as a fault behind them is told first; of these it keeps no more than show it.
func (r *reader) row() []api.Part {
	var row []api.Part
	for len(r.rest) > 0 {
		part := r.part()
		if len(row) <= api.MaxParts {
			row = append(row, part)
		}
	}
	return row
}

func (r *reader) part() api.Part {
	switch r.next() {
	case numberMark:
		return api.Part{Num: r.number()}
	case textMark:
		return api.Part{IsText: true, Text: r.text()}
	}
	panic(broken{api.ErrCorrupt})
}

func (r *reader) number() int64 {
	turned := uint64(0)
	for range wordBytes {
		turned = turned<<8 | uint64(r.next())
	}
	return int64(turned ^ signBit)
}

// text reads to the end of a text even if it is too long, as row does, and keeps no more of it than shows it.
func (r *reader) text() string {
	var text []byte
	for {
		c := r.next()
		if c == escape && r.isEnd() {
			return string(text)
		}
		if len(text) <= api.MaxText {
			text = append(text, c)
		}
	}
}

// isEnd tells, behind an escape, whether the text ends there, or has a byte 0.
func (r *reader) isEnd() bool {
	switch r.next() {
	case endMark:
		return true
	case noughtMark:
		return false
	}
	panic(broken{api.ErrCorrupt})
}

func (r *reader) next() byte {
	if len(r.rest) == 0 {
		panic(broken{api.ErrTorn})
	}
	c := r.rest[0]
	r.rest = r.rest[1:]
	return c
}
