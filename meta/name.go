package meta

import (
	"strconv"
	"strings"

	"stoa/api"
)

const (
	setPrefix   = "set-"
	colPrefix   = "col-"
	redoPrefix  = "redo-"
	idDigits    = 6
	colDigits   = 2
	redoDigits  = 3
	mostId      = mostNext - 1
	behindTheId = "."
)

// Name is the file of a part.
func Name(id int, part string) (string, api.Errno) {
	if !within(id, 1, mostId) {
		return "", api.ErrArg
	}
	if !isPart(part) {
		return "", api.ErrName
	}
	digits := strconv.Itoa(id)
	return setPrefix + strings.Repeat("0", idDigits-len(digits)) + digits + behindTheId + part, api.OK
}

// Parse is the id and the part of a file.
func Parse(name string) (int, string, bool) {
	head, part, _ := strings.Cut(name, behindTheId)
	id, ok := numberIn(head, setPrefix, idDigits)
	if !ok || id == 0 || !isPart(part) {
		return 0, "", false
	}
	return id, strings.Clone(part), true
}

// isPart tells whether a rowset has a part of this name.
func isPart(part string) bool {
	switch part {
	case "base", "bloom", "keys", "live", "undo":
		return true
	}
	if col, ok := numberIn(part, colPrefix, colDigits); ok {
		return col < api.MaxCols
	}
	number, ok := redoNumber(part)
	return ok && number > 0
}

// redoNumber is the number of a delta file; false for any other part.
func redoNumber(part string) (int, bool) {
	return numberIn(part, redoPrefix, redoDigits)
}

// numberIn is the number that stands in a name in so many digits, behind its beginning and with nothing behind it.
func numberIn(name, prefix string, digits int) (int, bool) {
	rest, ok := strings.CutPrefix(name, prefix)
	if !ok || len(rest) != digits {
		return 0, false
	}
	number := 0
	for i := range digits {
		// A byte below '0' wraps round to one far above 9.
		digit := rest[i] - '0'
		if digit > 9 {
			return 0, false
		}
		number = 10*number + int(digit)
	}
	return number, true
}
