package stream

// check is the CRC-32 (IEEE) of some bytes, bit by bit: a text is short enough to do without a table.
func check(text string) uint32 {
	sum := ^uint32(0)
	for i := range len(text) {
		sum ^= uint32(text[i])
		for range 8 {
			sum = sum>>1 ^ 0xedb88320*(sum&1)
		}
	}
	return ^sum
}
