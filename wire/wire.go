// Package wire: numbers as bytes, the highest byte first.
package wire

// Put puts n behind b; size bytes hold all of it.
func Put(b []byte, size, n int) []byte {
	for i := range size {
		b = append(b, byte(n>>(8*(size-1-i))))
	}
	return b
}

// Number is the number that bytes tell; there are no more than seven of them.
func Number(b []byte) int {
	n := 0
	for _, c := range b {
		n = n<<8 | int(c)
	}
	return n
}
