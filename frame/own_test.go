package frame_test

import (
	"bytes"
	"slices"
	"testing"

	"usance/api"
	"usance/frame"
)

// spoil writes over the whole list, its spare room too.
func spoil(list []byte) {
	list = list[:cap(list)]
	for i := range list {
		list[i] = 99
	}
}

// What is handed in stays as it is, spare room included, and isn't kept; what is answered is nobody else's (R4, R5).
func TestFrameIsNewMemory(t *testing.T) {
	for n := range 20 {
		whole := some(40)
		kept := bytes.Clone(whole)
		want := framed(kept[:n])
		first, _ := frame.Put(whole[:n])
		second, _ := frame.Put(whole[:n])
		frame.Sum(whole[:n])
		spoil(first)
		if !bytes.Equal(whole, kept) {
			t.Errorf("what was handed in became %v", whole)
		}
		if third, _ := frame.Put(whole[:n]); !bytes.Equal(third, want) {
			t.Errorf("behind an answer that was spoilt stands %v, not %v", third, want)
		}
		spoil(whole)
		if !bytes.Equal(second, want) {
			t.Errorf("an answer %v became %v", want, second)
		}
	}
}

func TestPayloadIsNewMemory(t *testing.T) {
	for n := range 20 {
		payload := some(n)
		whole := slices.Concat([]byte{5}, framed(payload), framed(payload))
		kept := bytes.Clone(whole)
		b := whole[:len(whole)-3]
		first, _, _ := frame.Read(b, 1)
		second, _, _ := frame.Read(b, 1)
		spoil(first)
		if !bytes.Equal(whole, kept) {
			t.Errorf("what was read became %v", whole)
		}
		if third, _, errno := frame.Read(b, 1); !bytes.Equal(third, payload) || errno != api.OK {
			t.Errorf("behind an answer that was spoilt stands %v, not %v", third, payload)
		}
		spoil(whole)
		if !bytes.Equal(second, payload) {
			t.Errorf("an answer %v became %v", payload, second)
		}
	}
}

// The payloads of one answer share no memory, nor do their lists.
func TestPayloadsAreNewMemory(t *testing.T) {
	payloads := [][]byte{some(3), nil, some(17), some(1), some(40), some(9)}
	var whole []byte
	for _, payload := range payloads {
		whole = append(whole, framed(payload)...)
	}
	for _, cut := range []int{0, 4} {
		b := bytes.Clone(whole)
		n, want := len(b)-cut, payloads
		if cut > 0 {
			want = payloads[:5]
		}
		first, _, _ := frame.All(b[:n])
		second, _, _ := frame.All(b[:n])
		for i := range first {
			spoil(first[i])
			if !bytes.Equal(b, whole) {
				t.Fatalf("what was read became %v", b)
			}
			if !slices.EqualFunc(first[i+1:], want[i+1:], bytes.Equal) {
				t.Fatalf("with payload %d the ones behind it became %v", i, first[i+1:])
			}
		}
		first = first[:cap(first)]
		for i := range first {
			first[i] = []byte{99}
		}
		spoil(b)
		if !slices.EqualFunc(second, want, bytes.Equal) {
			t.Errorf("an answer %v became %v", want, second)
		}
	}
}
