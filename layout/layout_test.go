package layout

import (
	"strings"
	"testing"
)

func TestBytesOf(t *testing.T) {
	for count, want := range map[int]int{0: 0, 1: 1, 7: 1, 8: 1, 9: 2, 255: 32, 256: 32} {
		if got := BytesOf(count); got != want {
			t.Errorf("BytesOf(%d) = %d, want %d", count, got, want)
		}
	}
}

func TestBitsAreCountedFromTheHighest(t *testing.T) {
	text := "\x80\x01" + strings.Repeat("\x00", 29) + "\x05"
	for at := range 256 {
		want := at == 0 || at == 15 || at == 253 || at == 255
		if got := Bit(text, at); got != want {
			t.Errorf("Bit at %d = %v, want %v", at, got, want)
		}
	}
}

func TestWrite(t *testing.T) {
	empty := "00"
	nine := []string{"00", "aa", "00", "bb", "00", "00", "00", "cc", "dd"}
	deep := make([]string, MaxDepth)
	for at := range deep {
		deep[at] = empty
	}
	deep[255] = "zz"
	for _, proof := range []struct {
		kind     int
		siblings []string
		end      string
		want     string
	}{
		{EndsEmpty, nil, "", "\x00\x00\x00"},
		{EndsHere, nil, "value", "\x01\x00\x00value"},
		{EndsHere, nil, "", "\x01\x00\x00"},
		{EndsOther, []string{"aa"}, "end", "\x02\x00\x01\x80aaend"},
		{EndsEmpty, []string{"00", "aa"}, "", "\x00\x00\x02\x40aa"},
		{EndsHere, nine, "v", "\x01\x00\x09\x51\x80aabbccddv"},
		{EndsHere, deep, "v", "\x01\x01\x00" + strings.Repeat("\x00", 31) + "\x01zzv"},
		{EndsEmpty, deep[:255], "", "\x00\x00\xff" + strings.Repeat("\x00", 32)},
	} {
		if got := Write(proof.kind, proof.siblings, empty, proof.end); got != proof.want {
			t.Errorf("Write(%d, %d siblings, %q) = %x, want %x", proof.kind, len(proof.siblings), proof.end, got, proof.want)
		}
	}
}
