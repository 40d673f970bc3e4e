// Package sums: the sum of a text, and the texts whose sums make up the root of a log.
package sums

import "lender/api"

// Sum is the sum of a text.
func Sum(s string) int {
	sum := 0
	for i := 0; i < len(s); i++ {
		sum = (sum*api.Factor + int(s[i]) + 1) % api.Prime
	}
	return sum
}

// IsSum tells whether a number can be the sum of a text.
func IsSum(n int) bool {
	return n >= 0 && n < api.Prime
}

// TwoBytes is the two bytes of a number from 0 to 65535.
func TwoBytes(n int) string {
	return string([]byte{byte(n % 256), byte(n / 256)})
}

// EntryText is the text whose sum stands for an entry.
func EntryText(entry string) string {
	return "E" + entry
}

// NodeText is the text whose sum stands for a log that is cut, of the roots of its two parts.
func NodeText(first int, other int) string {
	a := TwoBytes(first)
	b := TwoBytes(other)
	return "N" + a + b
}

// Node is the sum that stands for a log that is cut, of the roots of its two parts.
func Node(first int, other int) int {
	text := NodeText(first, other)
	return Sum(text)
}
