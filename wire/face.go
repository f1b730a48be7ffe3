// Package wire: what packages stream and tool have in common: texts are read and written record by record, from memory or from a file, and records of several iterators merged.
package wire

import "strand/api"

// Caught does something: OK, or the error's number with which something inside gave up.
func Caught(do func()) (e api.Errno) {
	defer func() {
		if given := recover(); given != nil {
			e = reason(given)
		}
	}()
	do()
	return api.OK
}

// reason is the error's number that a panic gave. Any other panic is a fault of the program, which must stay to be seen.
func reason(given any) api.Errno {
	e, ok := given.(api.Errno)
	if !ok {
		panic(given)
	}
	return e
}
