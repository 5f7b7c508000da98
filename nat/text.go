package nat

import (
	"strings"

	"cleaver/api"
)

// A block is as many decimal digits as always go into a limb: blockUnit is the least number that has more.
const (
	blockDigits = 19
	blockUnit   = 10_000_000_000_000_000_000
)

// Text is its decimal digits.
func Text(a []uint64) string {
	left := Norm(a)
	if len(left) == 0 {
		return "0"
	}
	var blocks []uint64
	for len(left) > 0 {
		blocks = append(blocks, divLimb(left, blockUnit))
		left = trim(left)
	}
	digits := make([]byte, len(blocks)*blockDigits)
	for i, block := range blocks {
		end := len(digits) - i*blockDigits
		layBlock(digits[end-blockDigits:end], block)
	}
	return strings.TrimLeft(string(digits), "0")
}

// layBlock lays a block's digits down, with noughts ahead.
func layBlock(digits []byte, block uint64) {
	for i := len(digits) - 1; i >= 0; i-- {
		digits[i] = byte('0' + block%10)
		block /= 10
	}
}

// Parse is the number of a text.
func Parse(s string) ([]uint64, api.Errno) {
	if !isText(s) {
		return nil, api.ErrText
	}
	var number []uint64
	for len(s) > 0 {
		first := (len(s)-1)%blockDigits + 1
		number = appendBlock(number, s[:first])
		s = s[first:]
	}
	return number, api.OK
}

// isText: is s the text of a natural, and short enough?
func isText(s string) bool {
	if len(s) == 0 || len(s) > api.MaxText {
		return false
	}
	for i := range len(s) {
		if s[i] < '0' || s[i] > '9' {
			return false
		}
	}
	return s[0] != '0' || len(s) == 1
}

// appendBlock is the number with a block's digits behind its own.
func appendBlock(number []uint64, digits string) []uint64 {
	block := uint64(0)
	for i := range len(digits) {
		block = block*10 + uint64(digits[i]-'0')
	}
	z := make([]uint64, len(number)+1)
	z[0] = block
	addTimes(z, number, blockUnit)
	return trim(z)
}
