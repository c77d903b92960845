package wal

import (
	"strconv"
	"strings"

	"usance/api"
)

const (
	digits     = 6
	lastNumber = 999999 // the greatest of so many digits
	suffix     = ".log"
	tempSuffix = ".tmp"
	mostPrefix = 8
)

// name answers the name of the segment with that number, which is none above the last one.
func (l *Log) name(number int) string {
	text := strconv.Itoa(number)
	return l.prefix + strings.Repeat("0", digits-len(text)) + text + suffix
}

// temp answers the name of the file that takes a segment's place, but only when it is whole.
func (l *Log) temp() string {
	return l.prefix + tempSuffix
}

// numbers answers the numbers of the segments on the disk, rising.
func (l *Log) numbers() ([]int, api.Errno) {
	names, errno := l.disk.List()
	if errno != api.OK {
		return nil, errno
	}
	var numbers []int
	// As each number has as many digits, the order of the names is theirs.
	for _, name := range names {
		if number := l.numberOf(name); number > 0 {
			numbers = append(numbers, number)
		}
	}
	return numbers, api.OK
}

// numberOf answers the number of the segment with that name, 0 if it is none's.
func (l *Log) numberOf(name string) int {
	rest, begins := strings.CutPrefix(name, l.prefix)
	text, ends := strings.CutSuffix(rest, suffix)
	if !begins || !ends || len(text) != digits {
		return 0
	}
	// Unsigned, as a file's name may have a - in it, which is no digit.
	number, err := strconv.ParseUint(text, 10, 32)
	if err != nil {
		return 0
	}
	return int(number)
}

func isPrefix(prefix string) bool {
	if len(prefix) == 0 || len(prefix) > mostPrefix {
		return false
	}
	for i := range len(prefix) {
		if prefix[i] < 'a' || prefix[i] > 'z' {
			return false
		}
	}
	return true
}
