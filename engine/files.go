package engine

import (
	"strconv"
	"strings"

	"ravelin/api"
	"ravelin/shelf"
)

// Names of files.
const (
	sheetName = "sheet"
	newName   = "new" // what takes another one's name as soon as it is whole
	logHead   = "log-"
	tableHead = "tab-"
)

const (
	// digits is how many a number in a name has; the greatest one has one more.
	digits = 6
	// maxNumber is the greatest number of a log, the greatest ID of a table.
	maxNumber = 1000000
)

// file is a name, and the bytes that it is to have.
type file struct{ name, bytes string }

// numbered tells the name of the log, the table with a number.
func numbered(head string, n int) string {
	s := strconv.Itoa(n)
	return head + strings.Repeat("0", max(digits-len(s), 0)) + s
}

// isOwn tells whether a file is the engine's by its name. (The sheet isn't asked for: one that is there stays.)
func isOwn(name string) bool {
	return name == newName || isNumbered(logHead, name) || isNumbered(tableHead, name)
}

// isNumbered tells whether a name is that head and a number.
func isNumbered(head, name string) bool {
	s, ok := strings.CutPrefix(name, head)
	if !ok {
		return false
	}
	n, err := strconv.Atoi(s)
	return err == nil && n <= maxNumber && numbered(head, n) == name
}

// replace has a file be that one, whatever had its name: at once, so that no crash leaves it half there. False, if the
// shelf refuses.
func replace(s *shelf.Shelf, f file) bool {
	return s.Put(newName, f.bytes) == api.OK && s.Swap(newName, f.name) == api.OK
}
