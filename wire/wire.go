// Package wire has numbers as bytes, the highest byte first.
package wire

// Num is the number that bytes are.
func Num(b []byte) int {
	n := 0
	for _, x := range b {
		n = n<<8 | int(x)
	}
	return n
}

// Append is bytes with a number's lowest ones, so many, behind them.
func Append(b []byte, n, size int) []byte {
	for i := size - 1; i >= 0; i-- {
		b = append(b, byte(n>>(8*i)))
	}
	return b
}
