package head_test

import (
	"bytes"
	"encoding/binary"
	"hash/adler32"
	"math"
	"testing"

	"platelayer/api"
	"platelayer/fault"
	"platelayer/head"
)

// pageOf is a page as the document's words say it, by the library's means; it
// asks nothing of the Kind.
func pageOf(h head.Head, block []byte) []byte {
	page := []byte{h.Kind}
	page = binary.LittleEndian.AppendUint32(page, h.Session)
	page = binary.LittleEndian.AppendUint32(page, h.Id)
	page = binary.LittleEndian.AppendUint32(page, h.Seq)
	n := adler32.Checksum(append(bytes.Clone(page), block...))
	page = binary.LittleEndian.AppendUint32(page, n)
	return append(page, block...)
}

// sealed tells a page's bytes with the sum that they should have.
func sealed(page []byte) []byte {
	page = bytes.Clone(page)
	n := adler32.Checksum(append(bytes.Clone(page[:13]), page[17:]...))
	binary.LittleEndian.PutUint32(page[13:17], n)
	return page
}

// mixed tells bytes of all values, by a short rule.
func mixed(many int, state uint32) []byte {
	b := make([]byte, many)
	for i := range b {
		state = state*1664525 + 1013904223
		b[i] = byte(state >> 24)
	}
	return b
}

func filled(many int, c byte) []byte { return bytes.Repeat([]byte{c}, many) }

func isRight(kind int) bool {
	switch kind {
	case 1, 2, 3, 4, 5:
		return true
	}
	return false
}

var kinds = []byte{head.Data, head.Trim, head.Map, head.Moved, head.Check}

var wrongKinds = []byte{0, 6, 7, 8, 127, 128, 129, 254, 255}

// numbers lie at the edges of each of their four bytes.
var numbers = []uint32{
	0, 1, 127, 128, 255, 256, 257, 65535, 65536, 1<<24 - 1, 1 << 24,
	0x04030201, 1<<31 - 1, 1 << 31, 4294967294, 4294967295,
}

var otherLengths = []int{0, 1, 4, 8, 12, 14, 15, 17, 18, 31, 32, 33, 48, 256, 1 << 16}

// blocks are blocks of many kinds.
func blocks() [][]byte {
	last := make([]byte, 16)
	last[15] = 1
	first := make([]byte, 16)
	first[0] = 255
	return [][]byte{
		make([]byte, 16), filled(16, 255), first, last, mixed(16, 1), mixed(16, 2),
		{1, 2, 3, 4, 5, 6, 7, 8, 9, 10, 11, 12, 13, 14, 15, 16},
	}
}

// heads calls f with heads of all kinds that may be, whose numbers are edges.
func heads(f func(h head.Head)) {
	for _, kind := range kinds {
		for _, session := range numbers {
			for _, id := range numbers {
				for _, seq := range numbers {
					f(head.Head{Kind: kind, Session: session, Id: id, Seq: seq})
				}
			}
		}
	}
}

// wantBytes holds what Bytes answers against a page.
func wantBytes(t *testing.T, h head.Head, block, want []byte) {
	t.Helper()
	got, err := head.Bytes(h, block)
	if err != nil || !bytes.Equal(got, want) {
		t.Fatalf("Bytes(%v, %v) = %v, %v, want %v", h, block, got, err, want)
	}
}

// wantNoBytes holds what Bytes answers against an error, beside which there is
// nothing.
func wantNoBytes(t *testing.T, h head.Head, block []byte, want api.Errno) {
	t.Helper()
	got, err := head.Bytes(h, block)
	if fault.Code(err) != want || !fault.Is(err, want) {
		t.Errorf("Bytes(%v, of %d bytes): %v, want code %d", h, len(block), err, want)
	}
	if len(got) != 0 {
		t.Errorf("Bytes(%v, of %d bytes): %v beside an error", h, len(block), got)
	}
}

// wantRead holds what Read answers against a head and a block.
func wantRead(t *testing.T, page []byte, want head.Head, block []byte) {
	t.Helper()
	h, b, err := head.Read(page)
	if err != nil || h != want || !bytes.Equal(b, block) {
		t.Fatalf("Read(%v) = %v, %v, %v, want %v, %v", page, h, b, err, want, block)
	}
}

// wantNoRead holds what Read answers against an error, beside which there is
// nothing.
func wantNoRead(t *testing.T, page []byte, want api.Errno) {
	t.Helper()
	h, b, err := head.Read(page)
	if fault.Code(err) != want || !fault.Is(err, want) {
		t.Errorf("Read(%v): %v, want code %d", page, err, want)
	}
	if h != (head.Head{}) || len(b) != 0 {
		t.Errorf("Read(%v): %v and %v beside an error", page, h, b)
	}
}

// examples are pages whose bytes were worked out by other means.
var examples = []struct {
	head  head.Head
	block []byte
	page  []byte
}{
	{
		head.Head{Kind: head.Data, Session: 1, Id: 2, Seq: 258},
		make([]byte, 16),
		[]byte{1, 1, 0, 0, 0, 2, 0, 0, 0, 2, 1, 0, 0, 8, 0, 193, 0, 0, 0, 0, 0, 0, 0, 0, 0, 0, 0, 0, 0, 0, 0, 0, 0},
	},
	{
		head.Head{Kind: head.Data, Session: 1, Id: 2, Seq: 258},
		[]byte{1, 2, 3, 4, 5, 6, 7, 8, 9, 10, 11, 12, 13, 14, 15, 16},
		[]byte{1, 1, 0, 0, 0, 2, 0, 0, 0, 2, 1, 0, 0, 144, 0, 241, 3, 1, 2, 3, 4, 5, 6, 7, 8, 9, 10, 11, 12, 13, 14, 15, 16},
	},
	{
		head.Head{Kind: head.Check, Session: math.MaxUint32, Id: math.MaxUint32, Seq: math.MaxUint32},
		filled(16, 255),
		[]byte{5, 255, 255, 255, 255, 255, 255, 255, 255, 255, 255, 255, 255, 234, 27, 39, 149, 255, 255, 255, 255, 255, 255, 255, 255, 255, 255, 255, 255, 255, 255, 255, 255},
	},
	{
		head.Head{Kind: head.Map, Session: 0x04030201, Id: 0x08070605, Seq: 0x0c0b0a09},
		[]byte{0, 0, 0, 0, 0, 0, 0, 0, 0, 0, 0, 0, 0, 0, 0, 1},
		[]byte{3, 1, 2, 3, 4, 5, 6, 7, 8, 9, 10, 11, 12, 83, 0, 193, 6, 0, 0, 0, 0, 0, 0, 0, 0, 0, 0, 0, 0, 0, 0, 0, 1},
	},
}

// P4.1

func TestKinds(t *testing.T) {
	for i, kind := range kinds {
		if int(kind) != i+1 {
			t.Errorf("kind number %d is %d", i+1, kind)
		}
	}
}

func TestRight(t *testing.T) {
	for kind := range 256 {
		for _, n := range numbers {
			for _, h := range []head.Head{
				{Kind: byte(kind)},
				{Kind: byte(kind), Session: n},
				{Kind: byte(kind), Id: n},
				{Kind: byte(kind), Seq: n},
				{Kind: byte(kind), Session: n, Id: n, Seq: n},
			} {
				if got := head.Right(h); got != isRight(kind) {
					t.Errorf("Right(%v) = %v", h, got)
				}
			}
		}
	}
}

func TestBytesOfExamples(t *testing.T) {
	for _, c := range examples {
		wantBytes(t, c.head, c.block, c.page)
	}
}

func TestBytesOfEachKind(t *testing.T) {
	for kind := range 256 {
		h := head.Head{Kind: byte(kind), Session: 1, Id: 2, Seq: 258}
		for _, block := range blocks() {
			if isRight(kind) {
				wantBytes(t, h, block, pageOf(h, block))
			} else {
				wantNoBytes(t, h, block, api.ErrArg)
			}
		}
	}
}

func TestBytesOfEachNumber(t *testing.T) {
	block := mixed(16, 3)
	heads(func(h head.Head) { wantBytes(t, h, block, pageOf(h, block)) })
}

// A page's bytes are told for each of its parts, so that none stands for
// another one.
func TestBytesOfEachPart(t *testing.T) {
	h := head.Head{Kind: head.Moved, Session: 0x44332211, Id: 0x88776655, Seq: 0xccbbaa99}
	block := filled(16, 0xdd)
	page, err := head.Bytes(h, block)
	if err != nil || len(page) != api.Page {
		t.Fatalf("%d bytes, %v", len(page), err)
	}
	if page[0] != 4 {
		t.Errorf("Kind: %d", page[0])
	}
	for i := range 12 {
		if want := byte(0x11 * (i + 1)); page[1+i] != want {
			t.Errorf("byte %d: %#x, want %#x", 1+i, page[1+i], want)
		}
	}
	if !bytes.Equal(page[api.Head:], block) {
		t.Errorf("block: %v", page[api.Head:])
	}
}

func TestBytesOfBlocksOfOtherLengths(t *testing.T) {
	for _, kind := range kinds {
		h := head.Head{Kind: kind, Session: 1, Id: 2, Seq: 3}
		wantNoBytes(t, h, nil, api.ErrShort)
		for _, many := range otherLengths {
			wantNoBytes(t, h, make([]byte, many), api.ErrShort)
			wantNoBytes(t, h, mixed(many, 4), api.ErrShort)
		}
	}
}

// How much room is behind a block counts for nothing.
func TestBytesOfBlocksWithRoomBehind(t *testing.T) {
	all := mixed(40, 5)
	h := head.Head{Kind: head.Data}
	wantNoBytes(t, h, all[:15], api.ErrShort)
	wantNoBytes(t, h, all[:0], api.ErrShort)
	wantBytes(t, h, all[3:19], pageOf(h, all[3:19]))
}

func TestBytesOfBothErrors(t *testing.T) {
	for _, kind := range wrongKinds {
		for _, h := range []head.Head{{Kind: kind}, {Kind: kind, Session: 1, Id: 2, Seq: 3}} {
			wantNoBytes(t, h, nil, api.ErrArg)
			for _, many := range otherLengths {
				wantNoBytes(t, h, make([]byte, many), api.ErrArg)
			}
		}
	}
}

// P4.2

func TestReadOfExamples(t *testing.T) {
	for _, c := range examples {
		wantRead(t, c.page, c.head, c.block)
	}
}

func TestReadOfEachKind(t *testing.T) {
	for kind := range 256 {
		for _, n := range numbers {
			h := head.Head{Kind: byte(kind), Session: n, Id: ^n, Seq: n / 2}
			for _, block := range blocks() {
				if isRight(kind) {
					wantRead(t, pageOf(h, block), h, block)
				} else {
					wantNoRead(t, pageOf(h, block), api.ErrForm)
				}
			}
		}
	}
}

func TestReadOfEachNumber(t *testing.T) {
	block := mixed(16, 6)
	heads(func(h head.Head) { wantRead(t, pageOf(h, block), h, block) })
}

func TestReadOfOtherLengths(t *testing.T) {
	wantNoRead(t, nil, api.ErrShort)
	page := pageOf(head.Head{Kind: head.Data, Session: 1, Id: 2, Seq: 3}, mixed(16, 7))
	long := append(bytes.Clone(page), page...)
	for many := range len(long) + 1 {
		if many != api.Page {
			wantNoRead(t, long[:many], api.ErrShort)
			wantNoRead(t, make([]byte, many), api.ErrShort)
			wantNoRead(t, filled(many, 255), api.ErrShort)
		}
	}
	wantNoRead(t, make([]byte, 1<<16), api.ErrShort)
	wantRead(t, long[:33], head.Head{Kind: head.Data, Session: 1, Id: 2, Seq: 3}, page[17:])
	wantRead(t, long[33:], head.Head{Kind: head.Data, Session: 1, Id: 2, Seq: 3}, page[17:])
}

// A page whose sum is right stays too short or too long, and its Kind, that may
// not be, is not told first.
func TestReadOfOtherLengthsAheadOfAll(t *testing.T) {
	page := pageOf(head.Head{Kind: 6}, make([]byte, 16))
	wantNoRead(t, page[:32], api.ErrShort)
	wantNoRead(t, append(bytes.Clone(page), 0), api.ErrShort)
	wantNoRead(t, pageOf(head.Head{Kind: head.Data}, make([]byte, 15)), api.ErrShort)
	wantNoRead(t, pageOf(head.Head{Kind: head.Data}, make([]byte, 17)), api.ErrShort)
}

func TestReadOfAnotherSum(t *testing.T) {
	h := head.Head{Kind: head.Trim, Session: 7, Id: 8, Seq: 9}
	page := pageOf(h, mixed(16, 8))
	n := binary.LittleEndian.Uint32(page[13:])
	for _, other := range []uint32{0, 1, n + 1, n - 1, n ^ 1<<31, n ^ 1<<16, n ^ 1<<15, n<<16 | n>>16, ^n, math.MaxUint32} {
		turned := bytes.Clone(page)
		binary.LittleEndian.PutUint32(turned[13:], other)
		wantNoRead(t, turned, api.ErrSum)
	}
	wantRead(t, page, h, page[17:])
}

// The sum is neither that with its highest byte first, nor one of more or fewer
// bytes than its own.
func TestReadOfSumsOfOtherBytes(t *testing.T) {
	page := pageOf(head.Head{Kind: head.Data, Session: 1, Id: 2, Seq: 258}, mixed(16, 9))
	n := binary.LittleEndian.Uint32(page[13:])
	zeroed := bytes.Clone(page)
	clear(zeroed[13:17])
	sums := []uint32{
		adler32.Checksum(page), adler32.Checksum(zeroed), adler32.Checksum(page[:13]), adler32.Checksum(page[17:]),
		adler32.Checksum(append(bytes.Clone(page[1:13]), page[17:]...)),
		adler32.Checksum(append(bytes.Clone(page[17:]), page[:13]...)),
		binary.BigEndian.Uint32(page[13:]),
	}
	for i, other := range sums {
		if other == n {
			t.Fatalf("sum number %d is the same", i)
		}
		turned := bytes.Clone(page)
		binary.LittleEndian.PutUint32(turned[13:], other)
		wantNoRead(t, turned, api.ErrSum)
	}
}

func TestReadOfBothErrors(t *testing.T) {
	for _, kind := range wrongKinds {
		page := pageOf(head.Head{Kind: kind, Session: 1, Id: 2, Seq: 3}, mixed(16, 10))
		wantNoRead(t, page, api.ErrForm)
		for _, at := range []int{1, 12, 13, 16, 17, 32} {
			turned := bytes.Clone(page)
			turned[at]++
			wantNoRead(t, turned, api.ErrSum)
		}
	}
	wantNoRead(t, make([]byte, 33), api.ErrSum)
	wantNoRead(t, filled(33, 255), api.ErrSum)
	wantNoRead(t, sealed(make([]byte, 33)), api.ErrForm)
	wantNoRead(t, sealed(filled(33, 255)), api.ErrForm)
}

// P4.3

func TestPagesComeBackFromTheirBytes(t *testing.T) {
	for i, block := range blocks() {
		heads(func(h head.Head) {
			if int(h.Session+h.Id+h.Seq)%7 != i {
				return
			}
			page, err := head.Bytes(h, block)
			if err != nil {
				t.Fatalf("Bytes(%v, %v): %v", h, block, err)
			}
			wantRead(t, page, h, block)
		})
	}
}

// Any bytes with the sum that they should have are a page, if their first one
// is a Kind that may be, and they come back too.
func TestBytesComeBackFromTheirPages(t *testing.T) {
	for i := range 20000 {
		page := mixed(33, uint32(i))
		page[0] = byte(i % 8)
		page = sealed(page)
		if !isRight(i % 8) {
			wantNoRead(t, page, api.ErrForm)
			continue
		}
		h, block, err := head.Read(page)
		if err != nil || len(block) != api.Block {
			t.Fatalf("Read(%v) = %v, %v, %v", page, h, block, err)
		}
		wantBytes(t, h, block, page)
	}
}

func TestAnyBytesAreReadOrNot(t *testing.T) {
	for i := range 20000 {
		page := mixed(33, uint32(i))
		page[0] = byte(i % 8)
		if !bytes.Equal(page, sealed(page)) {
			wantNoRead(t, page, api.ErrSum)
		}
	}
}

// Each byte of a page is each other one: nothing comes back, neither of pages
// whose Kind is then another one that may be, nor of one that may not be.
func TestOneOtherByte(t *testing.T) {
	heads := []head.Head{
		{Kind: head.Data, Session: 1, Id: 2, Seq: 258},
		{Kind: head.Trim},
		{Kind: head.Map, Session: 0x04030201, Id: 0x08070605, Seq: 0x0c0b0a09},
		{Kind: head.Moved, Session: 1 << 31, Id: 1 << 24, Seq: 65535},
		{Kind: head.Check, Session: math.MaxUint32, Id: math.MaxUint32, Seq: math.MaxUint32},
	}
	for _, h := range heads {
		for _, block := range blocks() {
			page, err := head.Bytes(h, block)
			if err != nil || len(page) != api.Page {
				t.Fatalf("Bytes(%v, %v) = %v, %v", h, block, page, err)
			}
			for at, was := range page {
				for c := range 256 {
					if byte(c) != was {
						page[at] = byte(c)
						wantNoRead(t, page, api.ErrSum)
					}
				}
				page[at] = was
			}
			wantRead(t, page, h, block)
		}
	}
}

func TestTwoBytesChangedForOneAnother(t *testing.T) {
	h := head.Head{Kind: head.Moved, Session: 0x44332211, Id: 0x88776655, Seq: 0xccbbaa99}
	page := pageOf(h, mixed(16, 11))
	for at := range len(page) - 1 {
		turned := bytes.Clone(page)
		turned[at], turned[at+1] = page[at+1], page[at]
		if !bytes.Equal(turned, page) {
			wantNoRead(t, turned, api.ErrSum)
		}
	}
}

// What rules hold everywhere: arguments stay, and answers share nothing with
// them, nor with one another.

func TestBytesSharesNothing(t *testing.T) {
	h := head.Head{Kind: head.Data, Session: 1, Id: 2, Seq: 258}
	around := mixed(48, 12)
	was := bytes.Clone(around)
	block := around[16:32]
	want := pageOf(h, block)
	one, err := head.Bytes(h, block)
	other, errOther := head.Bytes(h, block)
	if err != nil || errOther != nil || !bytes.Equal(around, was) {
		t.Fatalf("%v, %v, %v instead of %v", err, errOther, around, was)
	}
	for i := range block {
		block[i]++
	}
	if !bytes.Equal(one, want) {
		t.Errorf("the block was changed, and so was the page: %v", one)
	}
	copy(around, was)
	for i := range one {
		one[i]++
	}
	_ = append(one[:33:33], 1)
	_ = append(one, filled(100, 1)...)
	if !bytes.Equal(around, was) || !bytes.Equal(other, want) {
		t.Errorf("a page was changed, and so were others: %v, %v", around, other)
	}
}

func TestReadSharesNothing(t *testing.T) {
	h := head.Head{Kind: head.Moved, Session: 1, Id: 2, Seq: 258}
	want := mixed(16, 13)
	around := append(append(mixed(33, 14), pageOf(h, want)...), mixed(33, 15)...)
	was := bytes.Clone(around)
	page := around[33:66]
	_, one, err := head.Read(page)
	_, other, errOther := head.Read(page)
	if err != nil || errOther != nil || !bytes.Equal(around, was) {
		t.Fatalf("%v, %v, %v instead of %v", err, errOther, around, was)
	}
	for i := range page {
		page[i]++
	}
	if !bytes.Equal(one, want) {
		t.Errorf("the page was changed, and so was the block: %v", one)
	}
	copy(around, was)
	for i := range one {
		one[i]++
	}
	_ = append(one, filled(100, 1)...)
	if !bytes.Equal(around, was) || !bytes.Equal(other, want) {
		t.Errorf("a block was changed, and so were others: %v, %v", around, other)
	}
}

// Beside an error arguments stay too.
func TestArgumentsStayBesideErrors(t *testing.T) {
	all := mixed(66, 16)
	was := bytes.Clone(all)
	for many := range len(all) + 1 {
		_, _ = head.Bytes(head.Head{}, all[:many])
		_, _ = head.Bytes(head.Head{Kind: head.Data}, all[:many])
		_, _, _ = head.Read(all[:many])
	}
	if !bytes.Equal(all, was) {
		t.Error("the bytes were changed")
	}
}

// Nothing is kept from call to call: an error ahead changes no answer.
func TestNothingIsKept(t *testing.T) {
	for range 3 {
		for _, c := range examples {
			_, _ = head.Bytes(head.Head{Kind: 6, Session: 5}, nil)
			_, _, _ = head.Read(filled(33, 9))
			wantBytes(t, c.head, c.block, c.page)
			wantRead(t, c.page, c.head, c.block)
		}
	}
}
