package keys_test

import (
	"bytes"
	"slices"
	"testing"

	"usance/api"
	"usance/keys"
)

// spoil writes over the whole list, its spare room too.
func spoil[T any](list []T, with T) {
	list = list[:cap(list)]
	for i := range list {
		list[i] = with
	}
}

// What is handed in stays as it is, spare room included, and isn't kept; what is answered is nobody else's (R4, R5).
func TestEncodedIsNewMemory(t *testing.T) {
	whole := row(text("e"), num(7), text("a\x00b"), num(-1), text(""), num(0))
	kept := slices.Clone(whole)
	for n := 1; n <= 3; n++ {
		first, _ := keys.Encode(whole[:n])
		second, _ := keys.Encode(whole[:n])
		want := form(kept[:n])
		spoil(first, 99)
		if !bytes.Equal(second, want) {
			t.Errorf("an answer %v became %v", want, second)
		}
		if third, _ := keys.Encode(whole[:n]); !bytes.Equal(third, want) {
			t.Errorf("behind an answer that was spoilt stands %v, not %v", third, want)
		}
		if !slices.Equal(whole, kept) {
			t.Errorf("what was handed in became %s", told(whole))
		}
	}
	b, _ := keys.Encode(whole)
	spoil(whole, num(99))
	if !bytes.Equal(b, form(kept)) {
		t.Errorf("%v became %v with the row that it was made of", form(kept), b)
	}
}

func TestDecodedIsNewMemory(t *testing.T) {
	parts := row(text("e"), text("a\x00b"), num(7))
	b := append(form(parts), 1, 2, 3, 4)
	kept := bytes.Clone(b)
	n := len(b) - 4
	first, _ := keys.Decode(b[:n])
	second, _ := keys.Decode(b[:n])
	spoil(first, num(99))
	if !slices.Equal(second, parts) {
		t.Errorf("an answer %s became %s", told(parts), told(second))
	}
	if third, _ := keys.Decode(b[:n]); !slices.Equal(third, parts) {
		t.Errorf("behind an answer that was spoilt stands %s, not %s", told(third), told(parts))
	}
	if !bytes.Equal(b, kept) {
		t.Errorf("what was handed in became %v", b)
	}
	spoil(b, 99)
	if !slices.Equal(second, parts) {
		t.Errorf("%s became %s with the bytes that it was read of", told(parts), told(second))
	}
}

// Bytes in the spare room are none of a row's: it ends where it ends.
func TestSpareRoomIsNotRead(t *testing.T) {
	b := form(row(text("a"), num(1)))
	for _, n := range []int{2, 3, 5, 12} {
		if got, errno := keys.Decode(b[:n]); len(got) > 0 || errno != api.ErrTorn {
			t.Errorf("Decode(%v) = %s %d, not ErrTorn", b[:n], told(got), errno)
		}
	}
	if got, errno := keys.Decode(b[:4]); !slices.Equal(got, row(text("a"))) || errno != api.OK {
		t.Errorf("Decode(%v) = %s %d", b[:4], told(got), errno)
	}
}

func TestNextIsNewMemory(t *testing.T) {
	for _, b := range [][]byte{{7}, {7, 8}, {7, 255, 255}, {255, 255}, {}} {
		whole := append(bytes.Clone(b), 1, 2, 3, 4)
		kept := bytes.Clone(whole)
		first := keys.Next(whole[:len(b)])
		second := keys.Next(whole[:len(b)])
		want := bytes.Clone(second)
		spoil(first, 99)
		if !bytes.Equal(whole, kept) {
			t.Errorf("what was handed in became %v, not %v", whole, kept)
		}
		if !bytes.Equal(second, want) || !bytes.Equal(keys.Next(whole[:len(b)]), want) {
			t.Errorf("an answer %v became %v", want, second)
		}
		spoil(whole, 77)
		if !bytes.Equal(second, want) {
			t.Errorf("%v became %v with the bytes that it was made of", want, second)
		}
	}
}

func TestComparedStaysAsItIs(t *testing.T) {
	a := row(num(2), text("b"), num(1), text("a"))
	b := row(num(2), text("a"), num(3), text("c"))
	keptA, keptB := slices.Clone(a), slices.Clone(b)
	keys.Compare(a[:2], b[:2])
	if !slices.Equal(a, keptA) || !slices.Equal(b, keptB) {
		t.Errorf("what was compared became %s, %s", told(a), told(b))
	}
}
