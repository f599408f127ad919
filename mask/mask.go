// Package mask is layer 1: sets of calls and their texts; see shared/doc/01-mask.md.
package mask

import (
	"math/bits"
	"strconv"
	"strings"

	"kaudit/api"
)

// full has every bit that can stand for a call.
const full api.Mask = 1<<api.MaxCalls - 1

// maxDigits bounds a number in a text, so that no text makes it overflow.
const maxDigits = 4

// Valid reports whether every bit of m stands for a call.
func Valid(m api.Mask) bool {
	return m&^full == 0
}

// Of returns the set of the numbers of l.
func Of(l []int) (api.Mask, api.Errno) {
	var m api.Mask
	for _, n := range l {
		if !isCall(n) {
			return 0, api.ErrMaskCall
		}
		m |= span(n, n)
	}
	return m, api.OK
}

// List returns the numbers of the set in ascending order.
func List(m api.Mask) []int {
	rest := uint64(m & full)
	l := make([]int, 0, bits.OnesCount64(rest))
	for rest != 0 {
		l = append(l, bits.TrailingZeros64(rest))
		rest &= rest - 1
	}
	return l
}

// Has reports whether n is a number of the set.
func Has(m api.Mask, n int) bool {
	return isCall(n) && m&span(n, n) != 0
}

// Format returns the text of a set.
func Format(m api.Mask) string {
	m &= full
	switch m {
	case full:
		return "all"
	case 0:
		return "none"
	}
	var items []string
	for m != 0 {
		first, last := lowestRange(m)
		items = append(items, formatRange(first, last))
		m &^= span(first, last)
	}
	return strings.Join(items, ",")
}

// Parse returns the set that a text describes.
func Parse(s string) (api.Mask, api.Errno) {
	switch s {
	case "all":
		return full, api.OK
	case "none":
		return 0, api.OK
	}
	var m api.Mask
	beyond := false
	for item := range strings.SplitSeq(s, ",") {
		first, last, ok := parseRange(item)
		if !ok {
			return 0, api.ErrMaskForm
		}
		// A wrong form further on takes precedence over a number that is too great.
		if !isCall(last) {
			beyond = true
			continue
		}
		m |= span(first, last)
	}
	if beyond {
		return 0, api.ErrMaskCall
	}
	return m, api.OK
}

func isCall(n int) bool {
	return 0 <= n && n < api.MaxCalls
}

// span returns the set of the calls from first to last.
func span(first, last int) api.Mask {
	return api.Mask(2)<<last - api.Mask(1)<<first
}

// lowestRange returns the ends of the longest range at the lowest call of m, which is not empty.
func lowestRange(m api.Mask) (first, last int) {
	first = bits.TrailingZeros64(uint64(m))
	length := bits.TrailingZeros64(^(uint64(m) >> first))
	return first, first + length - 1
}

func formatRange(first, last int) string {
	if first == last {
		return strconv.Itoa(first)
	}
	return strconv.Itoa(first) + "-" + strconv.Itoa(last)
}

// parseRange reads N or N-M, N at most M.
func parseRange(item string) (first, last int, ok bool) {
	before, after, isRange := strings.Cut(item, "-")
	first, ok = parseNumber(before)
	if !ok || !isRange {
		return first, first, ok
	}
	last, ok = parseNumber(after)
	return first, last, ok && first <= last
}

// parseNumber is stricter than strconv.Atoi, which takes signs and leading zeros.
func parseNumber(s string) (n int, ok bool) {
	if s == "" || len(s) > maxDigits || s[0] == '0' && s != "0" {
		return 0, false
	}
	for i := range len(s) {
		if s[i] < '0' || s[i] > '9' {
			return 0, false
		}
		n = 10*n + int(s[i]-'0')
	}
	return n, true
}
