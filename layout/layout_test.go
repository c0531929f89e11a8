package layout_test

import (
	"bytes"
	"slices"
	"testing"

	"kist/api"
	"kist/layout"
)

// How many more blocks so many packed bytes need, at the edges.
func TestMoreFor(t *testing.T) {
	for packed, want := range map[int]int{0: 0, 1: 0, 235: 0, 236: 1, 473: 1, 474: 2, 711: 2} {
		if got := layout.MoreFor(packed); got != want {
			t.Errorf("MoreFor(%d) = %d, want %d", packed, got, want)
		}
	}
}

// What Blocks lays HeadOf tells, and the blocks have all the packed bytes.
func TestBlocks(t *testing.T) {
	for many := range 712 {
		packed := bytes.Repeat([]byte{7, 8, 9}, many)[:many]
		more := []int{258, 65535}[:layout.MoreFor(many)]
		all := layout.Blocks(300, packed, more)
		if len(all) != 1+len(more) {
			t.Fatalf("%d bytes have %d blocks", many, len(all))
		}
		h, ok := layout.HeadOf(all[0])
		if !ok || h.Len != 300 || h.Packed != many || !slices.Equal(h.More, more) {
			t.Fatalf("of %d bytes the head is %v, %v", many, h, ok)
		}
		got := h.First
		for _, b := range all[1:] {
			if b.Kind != api.KindMore || len(b.Body) == 0 || len(b.Body) > api.BodySize {
				t.Fatalf("of %d bytes a block is %v", many, b)
			}
			got = append(got, b.Body...)
		}
		if !bytes.Equal(got, packed) {
			t.Fatalf("of %d bytes there are %v", many, got)
		}
	}
	want := api.Block{Kind: api.KindChunk, Body: []byte{2, 1, 3, 0, 0, 7, 8, 9}}
	if b := layout.Blocks(258, []byte{7, 8, 9}, nil)[0]; b.Kind != want.Kind || !bytes.Equal(b.Body, want.Body) {
		t.Errorf("the block is %v", b)
	}
}

// Blocks that are no chunk's first one.
func TestNoHead(t *testing.T) {
	long := func(body []byte, many int) []byte { return append(body, make([]byte, many)...) }
	for _, body := range [][]byte{
		nil, {1}, {1, 0, 0, 0}, {0, 0, 1, 0, 0, 7}, {1, 2, 1, 0, 0, 7}, {255, 255, 1, 0, 0, 7},
		{1, 0, 1, 0, 0}, {1, 0, 1, 0, 0, 7, 7}, {1, 0, 1, 0, 1, 60, 0, 7}, {1, 0, 1, 0, 3, 60, 0, 61, 0, 62, 0, 7},
		long([]byte{1, 0, 236, 0, 0}, 235), long([]byte{1, 0, 236, 0, 1, 60, 0}, 232), long([]byte{1, 0, 236, 0, 1, 60, 0}, 234),
		long([]byte{1, 0, 200, 2, 3, 60, 0, 61, 0, 62, 0}, 229), long([]byte{1, 0, 255, 255, 2, 60, 0, 61, 0}, 231), {1, 0, 236, 0, 1}, {1, 0, 236, 0, 1, 60},
	} {
		if h, ok := layout.HeadOf(api.Block{Kind: api.KindChunk, Body: body}); ok || h.Len != 0 || h.Packed != 0 || len(h.More)+len(h.First) > 0 {
			t.Errorf("%v is a head: %v", body, h)
		}
	}
	good := long([]byte{1, 0, 236, 0, 1, 60, 0}, 233)
	for kind := -1; kind < 7; kind++ {
		if _, ok := layout.HeadOf(api.Block{Kind: kind, Body: good}); ok != (kind == api.KindChunk) {
			t.Errorf("of kind %d it is %v", kind, ok)
		}
	}
}

// What is answered is new memory.
func TestNewMemory(t *testing.T) {
	packed := bytes.Repeat([]byte{7}, 600)
	all := layout.Blocks(400, packed, []int{60, 61})
	h, _ := layout.HeadOf(all[0])
	clear(h.First)
	h.More[0] = 9
	for _, b := range all[1:] {
		clear(b.Body)
	}
	again, ok := layout.HeadOf(all[0])
	if !ok || again.First[0] != 7 || again.More[0] != 60 || slices.Contains(packed, 0) {
		t.Error(again, ok)
	}
}
