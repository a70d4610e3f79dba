package wire

import "bywash/api"

// How many bytes a number has.
const (
	short = 1
	long  = 4
)

// reader is bytes that are not read yet, and the first thing that was wrong with those that are.
type reader struct {
	left []byte
	err  api.Errno
}

// fail keeps the first fault: so what reads need not ask for one, and may read on to its end.
func (r *reader) fail(e api.Errno) {
	if r.err == api.OK {
		r.err = e
	}
}

// next is 0 where there is no byte any more.
func (r *reader) next() byte {
	if len(r.left) == 0 {
		r.fail(api.ErrShort)
		return 0
	}
	b := r.left[0]
	r.left = r.left[1:]
	return b
}

// upTo is a byte that may not be above a limit; it is 0 then.
func (r *reader) upTo(limit int) int {
	n := int(r.next())
	if n > limit {
		r.fail(api.ErrForm)
		return 0
	}
	return n
}

func (r *reader) number(size int) int {
	if size == short {
		// One more than 255 is 0: so 255 is -1, and all others are themselves.
		return int(r.next()+1) - 1
	}
	var n uint32
	for range size {
		n = n<<8 | uint32(r.next())
	}
	return int(int32(n))
}

// appendNumber is b, and behind it the lowest bytes of a number, as many as it has.
func appendNumber(b []byte, n, size int) []byte {
	for k := range size {
		b = append(b, byte(n>>(8*(size-1-k))))
	}
	return b
}
