package stream

import "strand/api"

// atFace tells what do answers, or the error's number with which something inside gave up; the answer is of zeros then, since nothing was returned.
func atFace[T any](do func() T) (answer T, e api.Errno) {
	defer func() {
		if given := recover(); given != nil {
			e = reason(given)
		}
	}()
	return do(), api.OK
}

// reason is the error's number that a panic gave. Any other panic is a fault of the program, which must stay to be seen.
func reason(given any) api.Errno {
	e, ok := given.(api.Errno)
	if !ok {
		panic(given)
	}
	return e
}
