package wire

// sum is the CRC-32 (IEEE) of bytes that come piece by piece, not yet turned.
type sum uint32

// begun is the sum of no bytes.
const begun sum = 0xffffffff

// behind is the sum with these bytes behind the others, bit by bit: a text is short enough to do without a table.
func (s sum) behind(text string) sum {
	for i := range len(text) {
		s ^= sum(text[i])
		for range 8 {
			s = s>>1 ^ 0xedb88320*(s&1)
		}
	}
	return s
}

// check is the number that stands behind these bytes.
func (s sum) check() uint32 { return ^uint32(s) }
