package varint_test

import (
	"bytes"
	"testing"

	"usance/varint"
)

// spoil writes over the whole list, its spare room too.
func spoil(list []byte) {
	list = list[:cap(list)]
	for i := range list {
		list[i] = 99
	}
}

// What is appended to stays as it is, spare room included, and what is answered is nobody else's (R4, R5).
func TestAppendedIsNewMemory(t *testing.T) {
	for _, add := range []func(b []byte) []byte{
		func(b []byte) []byte { return varint.AppendUint(b, 0) },
		func(b []byte) []byte { return varint.AppendUint(b, 1<<40) },
		func(b []byte) []byte { return varint.AppendInt(b, -1) },
		func(b []byte) []byte { return varint.AppendBytes(b, nil) },
		func(b []byte) []byte { return varint.AppendBytes(b, []byte("AB")) },
		func(b []byte) []byte { return varint.AppendBytes(b, b) },
	} {
		for n := range 6 {
			whole := []byte("a long list with room to spare")
			kept := bytes.Clone(whole)
			first := add(whole[:n])
			want := bytes.Clone(first)
			second := add(whole[:n])
			spoil(first)
			if !bytes.Equal(whole, kept) {
				t.Errorf("what was appended to became %v", whole)
			}
			if !bytes.Equal(second, want) || !bytes.Equal(add(whole[:n]), want) {
				t.Errorf("an answer %v became %v", want, second)
			}
			spoil(second)
			if !bytes.Equal(whole, kept) {
				t.Errorf("what was appended to became %v", whole)
			}
		}
	}
}

func TestWhatIsAppendedIsNotKept(t *testing.T) {
	x := []byte("some text, and more")
	kept := bytes.Clone(x)
	b := varint.AppendBytes([]byte{7}, x[:9])
	want := bytes.Clone(b)
	spoil(x)
	if !bytes.Equal(b, want) {
		t.Errorf("%v became %v with the bytes that it was made of", want, b)
	}
	copy(x, kept)
	spoil(b)
	if !bytes.Equal(x, kept) {
		t.Errorf("%v became %v with what was made of it", kept, x)
	}
}

func TestBytesAreNewMemory(t *testing.T) {
	for _, text := range []string{"", "A", "AB", "some text, and more"} {
		b := varint.AppendUint(varint.AppendBytes([]byte{5}, []byte(text)), 1<<40)
		kept := bytes.Clone(b)
		first, _, _ := varint.Bytes(b, 1, 99)
		second, _, _ := varint.Bytes(b, 1, 99)
		spoil(first)
		if !bytes.Equal(b, kept) {
			t.Errorf("%v became %v with what was read of it", kept, b)
		}
		spoil(b)
		if string(second) != text {
			t.Errorf("what was read as %q became %q", text, second)
		}
	}
}
