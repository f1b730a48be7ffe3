package stream

import (
	"strand/api"
	"strand/wire"
)

// atFace tells what do answers, or the error's number with which something inside gave up; the answer is of zeros then, since nothing was returned.
func atFace[T any](do func() T) (answer T, e api.Errno) {
	e = wire.Caught(func() { answer = do() })
	return answer, e
}
