package des_test

import (
	"bytes"
	published "crypto/des"
	"encoding/hex"
	"errors"
	"math/rand"
	"slices"
	"strconv"
	"testing"

	"lockbox/api"
	"lockbox/des"
)

var sizes = []int{8, 16, 24}

func eight(t *testing.T, text string) [8]byte {
	t.Helper()
	b, err := hex.DecodeString(text)
	if err != nil || len(b) != 8 {
		t.Fatalf("%q isn't eight bytes: %v", text, err)
	}
	return [8]byte(b)
}

func filled(size int, with byte) []byte {
	return bytes.Repeat([]byte{with}, size)
}

// counted is the bytes 01, 02, 03 and so on.
func counted(size int) []byte {
	all := make([]byte, size)
	for i := range all {
		all[i] = byte(i + 1)
	}
	return all
}

// eights is bytes of zeros, of ff, of one bit each, and drawn from a seed.
func eights(seed int64) [][8]byte {
	all := [][8]byte{{}, [8]byte(filled(8, 0xff)), [8]byte(counted(8))}
	for i := range 64 {
		var b [8]byte
		b[i/8] = 0x80 >> (i % 8)
		all = append(all, b)
	}
	draws := rand.New(rand.NewSource(seed))
	for range 40 {
		var b [8]byte
		draws.Read(b[:])
		all = append(all, b)
	}
	return all
}

// longKeys is keys of all three sizes: of zeros, of ff, counted, of one bit, and
// drawn from a seed.
func longKeys() [][]byte {
	draws := rand.New(rand.NewSource(5))
	var keys [][]byte
	for _, size := range sizes {
		keys = append(keys, filled(size, 0), filled(size, 0xff), counted(size))
		for i := range size {
			key := filled(size, 0)
			key[i] = 0x80
			keys = append(keys, key)
		}
		for range 20 {
			key := make([]byte, size)
			draws.Read(key)
			keys = append(keys, key)
		}
	}
	return keys
}

// chosen is the characters of in that the places (from 1 on) name.
func chosen(in string, places []int) string {
	var out []byte
	for _, place := range places {
		out = append(out, in[place-1])
	}
	return string(out)
}

// roundsByWords makes the round keys of texts of 0 and 1, by tables that are
// written anew.
func roundsByWords(key [8]byte) [16]uint64 {
	pc1 := []int{57, 49, 41, 33, 25, 17, 9, 1, 58, 50, 42, 34, 26, 18,
		10, 2, 59, 51, 43, 35, 27, 19, 11, 3, 60, 52, 44, 36,
		63, 55, 47, 39, 31, 23, 15, 7, 62, 54, 46, 38, 30, 22,
		14, 6, 61, 53, 45, 37, 29, 21, 13, 5, 28, 20, 12, 4}
	pc2 := []int{14, 17, 11, 24, 1, 5, 3, 28, 15, 6, 21, 10,
		23, 19, 12, 4, 26, 8, 16, 7, 27, 20, 13, 2,
		41, 52, 31, 37, 47, 55, 30, 40, 51, 45, 33, 48,
		44, 49, 39, 56, 34, 53, 46, 42, 50, 36, 29, 32}
	places := []int{1, 1, 2, 2, 2, 2, 2, 2, 1, 2, 2, 2, 2, 2, 2, 1}
	text := ""
	for _, x := range key {
		for i := range 8 {
			text += strconv.Itoa(int(x >> (7 - i) & 1))
		}
	}
	both := chosen(text, pc1)
	left, right := both[:28], both[28:]
	var rounds [16]uint64
	for i, n := range places {
		left, right = left[n:]+left[:n], right[n:]+right[:n]
		rounds[i], _ = strconv.ParseUint(chosen(left+right, pc2), 2, 64)
	}
	return rounds
}

// P3.1, the chapter's example and other known ones, both ways, by Block and by
// Triple with the key of eight bytes.
func TestExamples(t *testing.T) {
	for _, x := range []struct{ key, plain, cipher string }{
		{"133457799bbcdff1", "0123456789abcdef", "85e813540f0ab405"},
		{"0000000000000000", "0000000000000000", "8ca64de9c1b123a7"},
		{"ffffffffffffffff", "ffffffffffffffff", "7359b2163e4edc58"},
		{"0000000000000000", "ffffffffffffffff", "355550b2150e2451"},
		{"ffffffffffffffff", "0000000000000000", "caaaaf4deaf1dbae"},
		{"0123456789abcdef", "4e6f772069732074", "3fa40e8a984d4815"},
		{"0101010101010101", "8000000000000000", "95f8a5e5dd31d900"},
		{"8001010101010101", "0000000000000000", "95a8d72813daa94d"},
	} {
		key, plain, cipher := eight(t, x.key), eight(t, x.plain), eight(t, x.cipher)
		if got := des.Block(key, plain, false); got != cipher {
			t.Errorf("%s with %s: %x, not %s", x.plain, x.key, got, x.cipher)
		}
		if got := des.Block(key, cipher, true); got != plain {
			t.Errorf("%s back with %s: %x, not %s", x.cipher, x.key, got, x.plain)
		}
		if got, err := des.Triple(key[:], plain, false); err != nil || got != cipher {
			t.Errorf("%s by Triple with %s: %x, %v, not %s", x.plain, x.key, got, err, x.cipher)
		}
		if got, err := des.Triple(key[:], cipher, true); err != nil || got != plain {
			t.Errorf("%s back by Triple with %s: %x, %v, not %s", x.cipher, x.key, got, err, x.plain)
		}
	}
}

// P3.1, the known round keys of the chapter's key.
func TestKnownRounds(t *testing.T) {
	want := [16]uint64{
		0b000110_110000_001011_101111_111111_000111_000001_110010,
		0b011110_011010_111011_011001_110110_111100_100111_100101,
		0b010101_011111_110010_001010_010000_101100_111110_011001,
		0b011100_101010_110111_010110_110110_110011_010100_011101,
		0b011111_001110_110000_000111_111010_110101_001110_101000,
		0b011000_111010_010100_111110_010100_000111_101100_101111,
		0b111011_001000_010010_110111_111101_100001_100010_111100,
		0b111101_111000_101000_111010_110000_010011_101111_111011,
		0b111000_001101_101111_101011_111011_011110_011110_000001,
		0b101100_011111_001101_000111_101110_100100_011001_001111,
		0b001000_010101_111111_010011_110111_101101_001110_000110,
		0b011101_010111_000111_110101_100101_000110_011111_101001,
		0b100101_111100_010111_010001_111110_101011_101001_000001,
		0b010111_110100_001110_110111_111100_101110_011100_111010,
		0b101111_111001_000110_001101_001111_010011_111100_001010,
		0b110010_110011_110110_001011_000011_100001_011111_110101,
	}
	if got := des.Rounds(eight(t, "133457799bbcdff1")); got != want {
		t.Errorf("%012x, not %012x", got, want)
	}
}

// P3.1, Rounds at the edges: of zeros nothing, of ff all 48 bits and no more.
func TestRoundsOfZerosAndOnes(t *testing.T) {
	if got := des.Rounds([8]byte{}); got != [16]uint64{} {
		t.Errorf("zeros: %012x", got)
	}
	for i, got := range des.Rounds([8]byte(filled(8, 0xff))) {
		if got != 0xffffffffffff {
			t.Errorf("ff, round %d: %x", i+1, got)
		}
	}
}

// P3.1, Rounds by the chapter's words.
func TestRoundsOfSamples(t *testing.T) {
	for _, key := range eights(1) {
		if got, want := des.Rounds(key), roundsByWords(key); got != want {
			t.Errorf("the round keys of %x: %012x, not %012x", key, got, want)
		}
	}
}

// P3.1, Block held against the library's DES, both ways.
func TestBlockAsPublished(t *testing.T) {
	for _, key := range eights(2) {
		c, err := published.NewCipher(key[:])
		if err != nil {
			t.Fatal(err)
		}
		for _, b := range eights(3) {
			var want [8]byte
			c.Encrypt(want[:], b[:])
			if got := des.Block(key, b, false); got != want {
				t.Fatalf("%x with %x: %x, not %x", b, key, got, want)
			}
			c.Decrypt(want[:], b[:])
			if got := des.Block(key, b, true); got != want {
				t.Fatalf("%x back with %x: %x, not %x", b, key, got, want)
			}
		}
	}
}

// libraryKey is a key as the library's TDES takes it, of 24 bytes.
func libraryKey(key []byte) []byte {
	switch len(key) {
	case 8:
		return slices.Concat(key, key, key)
	case 16:
		return slices.Concat(key, key[:8])
	}
	return key
}

// P3.2, a known block of TDES, both ways.
func TestKnownTriple(t *testing.T) {
	key, err := hex.DecodeString("0123456789abcdef23456789abcdef01456789abcdef0123")
	if err != nil {
		t.Fatal(err)
	}
	plain, cipher := eight(t, "5468652071756663"), eight(t, "a826fd8ce53b855f")
	if got, err := des.Triple(key, plain, false); err != nil || got != cipher {
		t.Errorf("%x, %v, not %x", got, err, cipher)
	}
	if got, err := des.Triple(key, cipher, true); err != nil || got != plain {
		t.Errorf("back: %x, %v, not %x", got, err, plain)
	}
}

// P3.2, Triple held against the library's TDES, both ways.
func TestTripleAsPublished(t *testing.T) {
	for _, key := range longKeys() {
		c, err := published.NewTripleDESCipher(libraryKey(key))
		if err != nil {
			t.Fatal(err)
		}
		for _, b := range eights(6) {
			var want [8]byte
			c.Encrypt(want[:], b[:])
			if got, err := des.Triple(key, b, false); err != nil || got != want {
				t.Fatalf("%x with %x: %x, %v, not %x", b, key, got, err, want)
			}
			c.Decrypt(want[:], b[:])
			if got, err := des.Triple(key, b, true); err != nil || got != want {
				t.Fatalf("%x back with %x: %x, %v, not %x", b, key, got, err, want)
			}
		}
	}
}

// P3.2, Triple is the three steps that the chapter says, by Block.
func TestTripleBySteps(t *testing.T) {
	k1, k2, k3 := eight(t, "0123456789abcdef"), eight(t, "fedcba9876543210"), eight(t, "133457799bbcdff1")
	for _, b := range eights(7) {
		two := des.Block(k1, des.Block(k2, des.Block(k1, b, false), true), false)
		if got, err := des.Triple(slices.Concat(k1[:], k2[:]), b, false); err != nil || got != two {
			t.Errorf("16 bytes, %x: %x, %v, not %x", b, got, err, two)
		}
		three := des.Block(k3, des.Block(k2, des.Block(k1, b, false), true), false)
		if got, err := des.Triple(slices.Concat(k1[:], k2[:], k3[:]), b, false); err != nil || got != three {
			t.Errorf("24 bytes, %x: %x, %v, not %x", b, got, err, three)
		}
		back := des.Block(k1, des.Block(k2, des.Block(k3, b, true), false), true)
		if got, err := des.Triple(slices.Concat(k1[:], k2[:], k3[:]), b, true); err != nil || got != back {
			t.Errorf("24 bytes, %x back: %x, %v, not %x", b, got, err, back)
		}
	}
}

func tryOtherKey(t *testing.T, key []byte) {
	t.Helper()
	for _, back := range []bool{false, true} {
		for _, with := range []byte{0, 0xff} {
			got, err := des.Triple(key, [8]byte(filled(8, with)), back)
			if !errors.Is(err, api.ErrSize) || api.At(err) != -1 {
				t.Errorf("a key of %d bytes: %v at %d, not ErrSize", len(key), err, api.At(err))
			}
			if got != [8]byte{} {
				t.Errorf("a key of %d bytes: %x beside its error", len(key), got)
			}
		}
	}
}

// P3.2, ErrSize and zero of keys of all other lengths.
func TestKeysOfOtherLengths(t *testing.T) {
	tryOtherKey(t, nil)
	for size := range 300 {
		if !slices.Contains(sizes, size) {
			tryOtherKey(t, filled(size, 0xff))
		}
	}
	tryOtherKey(t, make([]byte, 1<<16+8))
}

// P3.3, back undoes forth, and forth back, in DES.
func TestBlockThereAndBack(t *testing.T) {
	for _, key := range eights(8) {
		for _, b := range eights(9) {
			if got := des.Block(key, des.Block(key, b, false), true); got != b {
				t.Fatalf("with %x, back of forth of %x is %x", key, b, got)
			}
			if got := des.Block(key, des.Block(key, b, true), false); got != b {
				t.Fatalf("with %x, forth of back of %x is %x", key, b, got)
			}
		}
	}
}

// P3.3, back undoes forth, and forth back, in TDES.
func TestTripleThereAndBack(t *testing.T) {
	for _, key := range longKeys() {
		for _, b := range eights(10) {
			for _, back := range []bool{false, true} {
				there, err := des.Triple(key, b, back)
				if err != nil {
					t.Fatal(err)
				}
				if got, err := des.Triple(key, there, !back); err != nil || got != b {
					t.Fatalf("with %x, %x (back first: %v) and undone is %x, %v", key, b, back, got, err)
				}
			}
		}
	}
}

// P3.3, of equal keys TDES is DES.
func TestEqualKeys(t *testing.T) {
	for _, key := range eights(11) {
		for _, b := range [][8]byte{{}, [8]byte(filled(8, 0xff)), key} {
			for _, back := range []bool{false, true} {
				want := des.Block(key, b, back)
				for _, times := range []int{1, 2, 3} {
					got, err := des.Triple(bytes.Repeat(key[:], times), b, back)
					if err != nil || got != want {
						t.Errorf("%x %d times, %x: %x, %v, not %x", key, times, b, got, err, want)
					}
				}
			}
		}
	}
}

// P3.3, a key's lowest bits say nothing, in DES: each alone, and all of them.
func TestLowestBits(t *testing.T) {
	for _, key := range eights(12) {
		b := [8]byte(counted(8))
		rounds, there, back := des.Rounds(key), des.Block(key, b, false), des.Block(key, b, true)
		for i := range 9 {
			other := key
			for k := range other {
				if k == i || i == 8 {
					other[k] ^= 1
				}
			}
			if des.Rounds(other) != rounds || des.Block(other, b, false) != there || des.Block(other, b, true) != back {
				t.Errorf("%x and %x part", key, other)
			}
		}
	}
}

// P3.3, a key's lowest bits say nothing, in TDES.
func TestLowestBitsOfTriple(t *testing.T) {
	b := [8]byte(counted(8))
	for _, key := range longKeys() {
		for _, back := range []bool{false, true} {
			want, err := des.Triple(key, b, back)
			if err != nil {
				t.Fatal(err)
			}
			for i := range key {
				other := slices.Clone(key)
				other[i] ^= 1
				if got, err := des.Triple(other, b, back); err != nil || got != want {
					t.Errorf("%x and %x part: %x, %v, not %x", key, other, got, err, want)
				}
			}
		}
	}
}

// P3.3 says nothing of other bits: each of them changes the round keys.
func TestOtherBitsCount(t *testing.T) {
	for _, key := range eights(13) {
		for i := range 64 {
			other := key
			other[i/8] ^= 0x80 >> (i % 8)
			if alike := des.Rounds(other) == des.Rounds(key); alike != (i%8 == 7) {
				t.Errorf("%x and %x: the same round keys: %v", key, other, alike)
			}
		}
	}
}

// Rule 5: a key stays, and so does the memory behind it in the same array.
func TestKeyStays(t *testing.T) {
	for size := range 40 {
		for _, back := range []bool{false, true} {
			room := counted(200)
			des.Triple(room[:size], [8]byte{}, back)
			if !bytes.Equal(room, counted(200)) {
				t.Errorf("a key of %d bytes was changed, or what is behind it: %x", size, room)
			}
		}
	}
}
