package wire_test

import (
	"bytes"
	"encoding/binary"
	"math/rand"
	"testing"

	"wayfinder/wire"
)

func TestPut(t *testing.T) {
	for _, c := range []struct {
		size, n int
		want    []byte
	}{
		{0, 0, nil},
		{1, 0, []byte{0}},
		{1, 255, []byte{255}},
		{2, 1, []byte{0, 1}},
		{2, 0x0102, []byte{1, 2}},
		{3, 0x010203, []byte{1, 2, 3}},
		{4, 1<<32 - 1, []byte{255, 255, 255, 255}},
		{4, 1 << 24, []byte{1, 0, 0, 0}},
	} {
		if is := wire.Put(nil, c.size, c.n); !bytes.Equal(is, c.want) {
			t.Errorf("Put %d %d: %x, must be %x", c.size, c.n, is, c.want)
		}
		if is := wire.Put([]byte{7, 8}, c.size, c.n); !bytes.Equal(is, append([]byte{7, 8}, c.want...)) {
			t.Errorf("Put %d %d behind two: %x", c.size, c.n, is)
		}
		if is := wire.Number(c.want); is != c.n {
			t.Errorf("Number %x: %d, must be %d", c.want, is, c.n)
		}
	}
}

func TestBack(t *testing.T) {
	r := rand.New(rand.NewSource(1))
	for range 1000 {
		n := r.Uint32()
		b := wire.Put(nil, 4, int(n))
		if !bytes.Equal(b, binary.BigEndian.AppendUint32(nil, n)) || wire.Number(b) != int(n) {
			t.Fatalf("%x: %x, back %x", n, b, wire.Number(b))
		}
	}
}
