package text

import (
	"math"
	"strings"
)

// number reads the size below its sign, without a sign of its own: the least
// number has no opposite among those of 64 bits.
func number(s string) (int64, error) {
	digits, negative := strings.CutPrefix(s, "-")
	greatest := uint64(math.MaxInt64)
	if negative {
		greatest++
	}
	size, err := magnitude(digits, greatest)
	if err != nil {
		return 0, err
	}
	if !negative {
		return int64(size), nil
	}
	if size == 0 {
		return 0, errForm
	}
	return -int64(size), nil
}

func magnitude(digits string, greatest uint64) (uint64, error) {
	if digits == "" || digits[0] == '0' && digits != "0" {
		return 0, errForm
	}
	size := uint64(0)
	for _, r := range digits {
		if !isDigit(r) {
			return 0, errForm
		}
		d := uint64(r - '0')
		if size > (greatest-d)/10 {
			return 0, errForm
		}
		size = size*10 + d
	}
	return size, nil
}
