package gf_test

import (
	"encoding/hex"
	"testing"

	"lockbox/gf"
)

// The boxes of 00 to ff, as AES was published with them.
const published = "637c777bf26b6fc53001672bfed7ab76ca82c97dfa5947f0add4a2af9ca472c0" +
	"b7fd9326363ff7cc34a5e5f171d8311504c723c31896059a071280e2eb27b275" +
	"09832c1a1b6e5aa0523bd6b329e32f8453d100ed20fcb15b6acbbe394a4c58cf" +
	"d0efaafb434d338545f9027f503c9fa851a3408f929d38f5bcb6da2110fff3d2" +
	"cd0c13ec5f974417c4a77e3d645d197360814fdc222a908846eeb814de5e0bdb" +
	"e0323a0a4906245cc2d3ac629195e479e7c8376d8dd54ea96c56f4ea657aae08" +
	"ba78252e1ca6b4c6e8dd741f4bbd8b8a703eb5664803f60e613557b986c11d9e" +
	"e1f8981169d98e949b1e87e9ce5528df8ca1890dbfe6426841992d0fb054bb16"

// productByWords multiplies the polynomials whole, and divides at the end.
func productByWords(a, b byte) byte {
	long := 0
	for k := range 8 {
		if b>>k&1 == 1 {
			long ^= int(a) << k
		}
	}
	for k := 14; k >= 8; k-- {
		if long>>k&1 == 1 {
			long ^= 0x11b << (k - 8)
		}
	}
	return byte(long)
}

// inverseByWords looks for the byte whose product with a is 1.
func inverseByWords(a byte) byte {
	for b := range 256 {
		if productByWords(a, byte(b)) == 1 {
			return byte(b)
		}
	}
	return 0
}

// boxByWords sums bit by bit, as the chapter says it.
func boxByWords(a byte) byte {
	inverse := inverseByWords(a)
	var box byte
	for i := range 8 {
		bit := byte(0x63) >> i & 1
		for _, far := range []int{0, 4, 5, 6, 7} {
			bit ^= inverse >> ((i + far) % 8) & 1
		}
		box |= bit << i
	}
	return box
}

// products is Mul of all pairs, so that all triples can be gone through.
func products() *[256][256]byte {
	var table [256][256]byte
	for a := range 256 {
		for b := range 256 {
			table[a][b] = gf.Mul(byte(a), byte(b))
		}
	}
	return &table
}

// P1.1, the chapter's examples and the edges 0, 1 and ff.
func TestExamplesAndEdges(t *testing.T) {
	for _, x := range []struct{ a, b, want byte }{
		{0x57, 0x83, 0xc1},
		{0, 0, 0}, {0, 0xff, 0}, {0xff, 0, 0},
		{1, 1, 1}, {1, 0xff, 0xff}, {0xff, 1, 0xff},
		{2, 0x80, 0x1b}, {0xff, 0xff, 0x13},
	} {
		if got := gf.Mul(x.a, x.b); got != x.want {
			t.Errorf("Mul(%02x, %02x) = %02x, not %02x", x.a, x.b, got, x.want)
		}
	}
	for _, x := range []struct{ a, inverse, box byte }{
		{0, 0, 0x63}, {1, 1, 0x7c}, {0x53, 0xca, 0xed}, {0xff, 0x1c, 0x16},
	} {
		if got := gf.Inv(x.a); got != x.inverse {
			t.Errorf("Inv(%02x) = %02x, not %02x", x.a, got, x.inverse)
		}
		if got := gf.Box(x.a); got != x.box {
			t.Errorf("Box(%02x) = %02x, not %02x", x.a, got, x.box)
		}
		if got := gf.Unbox(x.box); got != x.a {
			t.Errorf("Unbox(%02x) = %02x, not %02x", x.box, got, x.a)
		}
	}
}

// P1.1, Mul of all pairs.
func TestMulOfAllPairs(t *testing.T) {
	for a := range 256 {
		for b := range 256 {
			got, want := gf.Mul(byte(a), byte(b)), productByWords(byte(a), byte(b))
			if got != want {
				t.Fatalf("Mul(%02x, %02x) = %02x, not %02x", a, b, got, want)
			}
		}
	}
}

// P1.1, Inv of all bytes.
func TestInvOfAllBytes(t *testing.T) {
	for a := range 256 {
		got, want := gf.Inv(byte(a)), inverseByWords(byte(a))
		if got != want {
			t.Errorf("Inv(%02x) = %02x, not %02x", a, got, want)
		}
		if a != 0 && gf.Mul(byte(a), got) != 1 {
			t.Errorf("%02x by its inverse is not 1", a)
		}
	}
}

// P1.1, Box and Unbox of all bytes, by the chapter's words and as published.
func TestBoxOfAllBytes(t *testing.T) {
	table, err := hex.DecodeString(published)
	if err != nil || len(table) != 256 {
		t.Fatalf("%d boxes are published, %v", len(table), err)
	}
	for a := range 256 {
		want := boxByWords(byte(a))
		if table[a] != want {
			t.Fatalf("the box of %02x is %02x by words and %02x as published", a, want, table[a])
		}
		if got := gf.Box(byte(a)); got != want {
			t.Errorf("Box(%02x) = %02x, not %02x", a, got, want)
		}
		if got := gf.Unbox(want); got != byte(a) {
			t.Errorf("Unbox(%02x) = %02x, not %02x", want, got, a)
		}
	}
}

// P1.2, products don't hang on the order.
func TestOrderOfTwo(t *testing.T) {
	mul := products()
	for a := range 256 {
		for b := range a {
			if mul[a][b] != mul[b][a] {
				t.Fatalf("%02x by %02x is %02x, and %02x the other way", a, b, mul[a][b], mul[b][a])
			}
		}
	}
}

// P1.2, products don't hang on which two of three come first, and part over sums.
func TestAllTriples(t *testing.T) {
	mul := products()
	for a := range 256 {
		for b := range 256 {
			for c := range 256 {
				if mul[mul[a][b]][c] != mul[a][mul[b][c]] {
					t.Fatalf("%02x, %02x, %02x: it hangs on which two come first", a, b, c)
				}
				if mul[a][b^c] != mul[a][b]^mul[a][c] {
					t.Fatalf("%02x by the sum of %02x and %02x isn't the products' sum", a, b, c)
				}
			}
		}
	}
}

// P1.2, Unbox undoes Box, and Box Unbox.
func TestThereAndBack(t *testing.T) {
	for a := range 256 {
		if got := gf.Unbox(gf.Box(byte(a))); got != byte(a) {
			t.Errorf("Unbox of Box of %02x is %02x", a, got)
		}
		if got := gf.Box(gf.Unbox(byte(a))); got != byte(a) {
			t.Errorf("Box of Unbox of %02x is %02x", a, got)
		}
	}
}
