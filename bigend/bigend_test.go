package bigend

import (
	"bytes"
	"testing"
)

func TestBothWays(t *testing.T) {
	for _, c := range []struct {
		n    uint64
		size int
		want string
	}{{0x0102030405060708, 8, "\x01\x02\x03\x04\x05\x06\x07\x08"}, {258, 4, "\x00\x00\x01\x02"}, {255, 1, "\xff"}, {0, 2, "\x00\x00"}, {7, 0, ""}} {
		if got := Append([]byte("ab"), c.n, c.size); !bytes.Equal(got, []byte("ab"+c.want)) {
			t.Errorf("%d: %x", c.n, got)
		}
		if c.size > 0 && Number([]byte(c.want)) != c.n {
			t.Errorf("%x: %d", c.want, Number([]byte(c.want)))
		}
	}
}
