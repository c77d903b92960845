package manifest

import (
	"slices"
	"strconv"
	"strings"
)

const (
	digits      = 6
	lastID      = 999999 // the greatest of so many digits
	tablePrefix = "t"
	tableSuffix = ".tbl"

	current    = "current" // the file that names the one that has the version
	filePrefix = "manifest."
)

// Name answers the name of the table's file, none of an ID that no table has.
func Name(id int) string {
	if !isID(id) {
		return ""
	}
	text := strconv.Itoa(id)
	return tablePrefix + strings.Repeat("0", digits-len(text)) + text + tableSuffix
}

// idOf answers the ID of the table whose file has that name, 0 if it is none's.
func idOf(name string) int {
	rest, _ := strings.CutPrefix(name, tablePrefix)
	text, _ := strings.CutSuffix(rest, tableSuffix)
	id, err := strconv.Atoi(text)
	// Asked back, as what is read as a number may have been written in another way.
	if err != nil || name != Name(id) {
		return 0
	}
	return id
}

func isID(id int) bool { return 1 <= id && id <= lastID }

// fileName answers the name of the manifest's file with that number.
func fileName(number int) string {
	return filePrefix + strconv.Itoa(number)
}

// isFile tells whether a file of that name is one of the manifest's that have numbers.
func isFile(name string) bool {
	text, _ := strings.CutPrefix(name, filePrefix)
	number, err := strconv.Atoi(text)
	return err == nil && number > 0 && name == fileName(number)
}

// unused answers the first name of a file with a number that isn't among these: numbers that are free again are taken again, so that they stay small.
func unused(files []string) string {
	number := 1
	for slices.Contains(files, fileName(number)) {
		number++
	}
	return fileName(number)
}
