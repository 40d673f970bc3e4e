package sums_test

import (
	"testing"

	"lender/sums"
)

func TestTwoBytes(t *testing.T) {
	for n, want := range map[int]string{0: "\x00\x00", 1: "\x01\x00", 255: "\xff\x00", 256: "\x00\x01", 4092: "\xfc\x0f", 65535: "\xff\xff"} {
		if got := sums.TwoBytes(n); got != want {
			t.Errorf("TwoBytes(%d) = %q, want %q", n, got, want)
		}
	}
}

func TestTexts(t *testing.T) {
	if got := sums.EntryText("a b"); got != "Ea b" {
		t.Errorf("EntryText = %q", got)
	}
	if got := sums.EntryText(""); got != "E" {
		t.Errorf("EntryText of nothing = %q", got)
	}
	if got := sums.NodeText(4092, 258); got != "N\xfc\x0f\x02\x01" {
		t.Errorf("NodeText = %q", got)
	}
}

func TestNode(t *testing.T) {
	if got := sums.Node(2159, 2160); got != 2443 {
		t.Errorf("Node = %d, want 2443", got)
	}
}

func TestIsSum(t *testing.T) {
	for n, want := range map[int]bool{-1 << 63: false, -1: false, 0: true, 4092: true, 4093: false, 1<<63 - 1: false} {
		if sums.IsSum(n) != want {
			t.Errorf("IsSum(%d) is not %v", n, want)
		}
	}
}
