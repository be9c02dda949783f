// Package num is layer 1: whole numbers that don't wrap, and their texts: see shared/doc/01-num.md.
package num

import (
	"strconv"

	"haulier/api"
)

// Fits: is it within MaxBig?
func Fits(a int) bool { return -api.MaxBig <= a && a <= api.MaxBig }

// Add: the sum.
func Add(a, b int) (int, api.Errno) {
	if !Fits(a) || !Fits(b) {
		return 0, api.ErrBig
	}
	// Two numbers that fit sum up to at most 2^63 - 2 on either side, so this doesn't wrap.
	return fitting(a + b)
}

// Mul: the product.
func Mul(a, b int) (int, api.Errno) {
	if !Fits(a) || !Fits(b) {
		return 0, api.ErrBig
	}
	// The product itself may wrap, so the limit is divided instead.
	if a != 0 && size(b) > api.MaxBig/size(a) {
		return 0, api.ErrBig
	}
	return a * b, api.OK
}

// Sum: of a list, from the left.
func Sum(l []int) (int, api.Errno) {
	sum := 0
	for _, a := range l {
		next, e := Add(sum, a)
		if e != api.OK {
			return 0, e
		}
		sum = next
	}
	return sum, api.OK
}

// Text: in decimal.
func Text(a int) string { return strconv.Itoa(a) }

// Parse: a number's text.
func Parse(s string) (int, api.Errno) {
	below := len(s) > 0 && s[0] == '-'
	digits := s
	if below {
		digits = s[1:]
	}
	if !plain(digits) || below && digits == "0" {
		return 0, api.ErrDigits
	}
	n, e := count(digits)
	if below {
		n = -n
	}
	return n, e
}

// fitting: a number, if it fits.
func fitting(a int) (int, api.Errno) {
	if !Fits(a) {
		return 0, api.ErrBig
	}
	return a, api.OK
}

// size: a number without its sign. (Of one that fits: the least int has none.)
func size(a int) int {
	if a < 0 {
		return -a
	}
	return a
}

// plain: digits alone, one at least, and no zero ahead of another one?
func plain(s string) bool {
	if s == "" || len(s) > 1 && s[0] == '0' {
		return false
	}
	for i := range len(s) {
		if s[i] < '0' || s[i] > '9' {
			return false
		}
	}
	return true
}

// count: the number that digits tell. It ends at the first digit that leads beyond MaxBig, so that no text is too long for it.
func count(digits string) (int, api.Errno) {
	n := 0
	for i := range len(digits) {
		d := int(digits[i] - '0')
		if n > (api.MaxBig-d)/10 {
			return 0, api.ErrBig
		}
		n = n*10 + d
	}
	return n, api.OK
}
