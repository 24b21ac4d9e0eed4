package mac_test

import (
	"bytes"
	libaes "crypto/aes"
	"crypto/cipher"
	libdes "crypto/des"
	"encoding/hex"
	"errors"
	"math"
	"math/big"
	"math/rand"
	"testing"

	"lockbox/api"
	"lockbox/block"
	"lockbox/mac"
	"lockbox/tape"
)

func filled(size int, with byte) []byte { return bytes.Repeat([]byte{with}, size) }

func seeded(size int, seed int64) []byte {
	all := make([]byte, size)
	rand.New(rand.NewSource(seed)).Read(all)
	return all
}

func unhex(t *testing.T, text string) []byte {
	t.Helper()
	b, err := hex.DecodeString(text)
	if err != nil {
		t.Fatal(err)
	}
	return b
}

// sixteens is blocks of one byte each, sixteen times.
func sixteens(each ...byte) []byte {
	var all []byte
	for _, b := range each {
		all = append(all, filled(16, b)...)
	}
	return all
}

func laid(t *testing.T, draws []byte) *tape.Tape {
	t.Helper()
	x, err := tape.New(draws)
	if err != nil {
		t.Fatal(err)
	}
	return x
}

func made(t *testing.T, kind int, key []byte, b *block.Book) *block.Cipher {
	t.Helper()
	c, err := block.New(kind, key, b)
	if err != nil {
		t.Fatal(err)
	}
	return c
}

// oracle is one with a book and a tape of its own.
func oracle(t *testing.T, draws []byte) (*block.Cipher, *block.Book, *tape.Tape) {
	t.Helper()
	x := laid(t, draws)
	b := block.NewBook(x)
	return made(t, api.Oracle, []byte("a key"), b), b, x
}

// each does something with ciphers of all kinds and key lengths, oracles with
// many draws among them. Every call of fresh is such a cipher that was asked
// nothing yet.
func each(t *testing.T, do func(t *testing.T, fresh func() *block.Cipher)) {
	t.Helper()
	for kind, sizes := range map[int][]int{api.AES: {16, 24, 32}, api.TDES: {8, 16, 24}, api.Oracle: {1, 16, 32}} {
		for _, size := range sizes {
			key, draws := seeded(size, int64(size)), seeded(1<<16, 9)
			do(t, func() *block.Cipher { return made(t, kind, key, block.NewBook(laid(t, draws))) })
		}
	}
}

// about is lengths about whole blocks: none, one byte, and of one block and
// several one byte less, just as many and one more.
func about(size int) []int {
	all := []int{0, 1, 2}
	for _, many := range []int{1, 2, 3, 7} {
		all = append(all, many*size-1, many*size, many*size+1)
	}
	return all
}

// wantNumber wants an error that is a number without a place, and nothing beside
// it.
func wantNumber(t *testing.T, got []byte, err error, number api.Errno) {
	t.Helper()
	if !errors.Is(err, number) || api.Code(err) != int(number) || api.At(err) != -1 {
		t.Errorf("the error is %v at %d, want %d alone", err, api.At(err), int(number))
	}
	if len(got) != 0 {
		t.Errorf("%x stands beside an error", got)
	}
}

// wantTapes wants the tape's own fault, with how many bytes were left, none
// behind it, and nothing beside it.
func wantTapes(t *testing.T, got []byte, err error, left int) {
	t.Helper()
	var fault, inner *api.Fault
	if !errors.As(err, &fault) || fault.At != left || errors.As(fault.Err, &inner) {
		t.Fatalf("the error is %v at %d, want the tape's alone at %d", err, api.At(err), left)
	}
	if !errors.Is(err, api.ErrTape) || api.Code(err) != 13 {
		t.Errorf("the error's number is %d, want 13", api.Code(err))
	}
	if len(got) != 0 {
		t.Errorf("%x stands beside an error", got)
	}
}

// wantEnd wants a fault at a block's place, and behind it the tape's own.
func wantEnd(t *testing.T, got []byte, err error, place, left int) {
	t.Helper()
	var outer *api.Fault
	if !errors.As(err, &outer) || outer.At != place || api.At(err) != place {
		t.Fatalf("the error is %v at %d, want a fault at %d", err, api.At(err), place)
	}
	if !errors.Is(err, api.ErrTape) || api.Code(err) != 13 {
		t.Errorf("the error's number is %d, want 13", api.Code(err))
	}
	wantTapes(t, got, outer.Err, left)
}

func wantBytes(t *testing.T, name string, got []byte, err error, want []byte) {
	t.Helper()
	if err != nil || !bytes.Equal(got, want) {
		t.Fatalf("%s is %x, %v, want %x", name, got, err, want)
	}
}

func wantBook(t *testing.T, b *block.Book, x *tape.Tape, rows, left int) {
	t.Helper()
	if b.Rows() != rows || x.Left() != left {
		t.Errorf("there are %d rows and %d bytes left, want %d and %d", b.Rows(), x.Left(), rows, left)
	}
}

// P7.1, the chapter's example, and how it begins.
func TestExample(t *testing.T) {
	c := made(t, api.AES, unhex(t, "2b7e151628aed2a6abf7158809cf4f3c"), nil)
	want := unhex(t, "bb1d6929e95937287fa37d129b756746")
	for _, text := range [][]byte{nil, {}} {
		for n := 1; n <= 16; n++ {
			got, err := mac.Cmac(c, text, n)
			wantBytes(t, "the code of nothing", got, err, want[:n])
		}
	}
}

// P7.1, CMAC as it was published, with AES and TDES.
func TestPublished(t *testing.T) {
	text := unhex(t, "6bc1bee22e409f96e93d7e117393172aae2d8a571e03ac9c9eb76fac45af8e5130c81c46a35ce411e5fbc1191a0a52eff69f2445df4f9b17ad2b417be66c3710")
	for _, x := range []struct {
		kind  int
		key   string
		longs [4]int
		codes [4]string
	}{
		{api.AES, "2b7e151628aed2a6abf7158809cf4f3c", [4]int{0, 16, 40, 64},
			[4]string{"bb1d6929e95937287fa37d129b756746", "070a16b46b4d4144f79bdd9dd04a287c", "dfa66747de9ae63030ca32611497c827", "51f0bebf7e3b9d92fc49741779363cfe"}},
		{api.AES, "8e73b0f7da0e6452c810f32b809079e562f8ead2522c6b7b", [4]int{0, 16, 40, 64},
			[4]string{"d17ddf46adaacde531cac483de7a9367", "9e99a7bf31e710900662f65e617c5184", "8a1de5be2eb31aad089a82e6ee908b0e", "a1d5df0eed790f794d77589659f39a11"}},
		{api.AES, "603deb1015ca71be2b73aef0857d77811f352c073b6108d72d9810a30914dff4", [4]int{0, 16, 40, 64},
			[4]string{"028962f61b7bf89efc6b551f4667d983", "28a7023f452e8f82bd4bf28d8c37c35c", "aaf3d8f1de5640c232f5b169b9c911e6", "e1992190549f6ed5696a2c056c315410"}},
		{api.TDES, "8aa83bf8cbda10620bc1bf19fbb6cd58bc313d4a371ca8b5", [4]int{0, 8, 20, 32},
			[4]string{"b7a688e122ffaf95", "8e8f293136283797", "743ddbe0ce2dc2ed", "33e6b1092400eae5"}},
		{api.TDES, "4cf15134a2850dd58a3d10ba80570d38", [4]int{0, 8, 20, 32},
			[4]string{"bd2ebf9a3ba00361", "4ff2ab813c53ce83", "62dd1b471902bd4e", "31b1e431dabc4eb8"}},
	} {
		c := made(t, x.kind, unhex(t, x.key), nil)
		for i, long := range x.longs {
			want := unhex(t, x.codes[i])
			got, err := mac.Cmac(c, text[:long], c.Size())
			wantBytes(t, "CMAC", got, err, want)
			got, err = mac.Cmac(c, text[:long], 4)
			wantBytes(t, "the first four bytes", got, err, want[:4])
		}
	}
}

// twice is a block doubled, worked out with it as one number.
func twice(b []byte) []byte {
	turn := int64(0x87)
	if len(b) == 8 {
		turn = 0x1b
	}
	bits := len(b) * 8
	x := new(big.Int).Lsh(new(big.Int).SetBytes(b), 1)
	if x.Bit(bits) == 1 {
		x.SetBit(x, bits, 0)
		x.Xor(x, big.NewInt(turn))
	}
	return x.FillBytes(make([]byte, len(b)))
}

// byWords is the code of a text as the chapter says it, step by step; do
// enciphers a block of size bytes.
func byWords(size int, do func(b []byte) []byte, text []byte) []byte {
	k := twice(do(make([]byte, size)))
	whole, rest := len(text)/size, len(text)%size
	if rest == 0 && whole > 0 {
		whole, rest = whole-1, size
	}
	last := bytes.Clone(text[whole*size:])
	if rest < size {
		k = twice(k)
		last = append(last, 0x80)
		for len(last) < size {
			last = append(last, 0)
		}
	}
	state := make([]byte, size)
	turn := func(b []byte) {
		for i := range state {
			state[i] ^= b[i]
		}
	}
	for at := range whole {
		turn(text[at*size : (at+1)*size])
		state = do(state)
	}
	turn(last)
	turn(k)
	return do(state)
}

// P7.1, texts about whole blocks, with each cipher, held against the plain words.
// An oracle that was asked nothing yet is asked for L first, then for the text's
// blocks in their order.
func TestAgainstWords(t *testing.T) {
	each(t, func(t *testing.T, fresh func() *block.Cipher) {
		size := fresh().Size()
		for _, long := range about(size) {
			text := seeded(long, int64(long))
			other := fresh()
			want := byWords(size, func(b []byte) []byte {
				done, err := other.Do(b, false)
				if err != nil {
					t.Fatal(err)
				}
				return done
			}, text)
			for n := 1; n <= size; n++ {
				got, err := mac.Cmac(fresh(), text, n)
				wantBytes(t, "CMAC", got, err, want[:n])
			}
		}
	})
}

// P7.1, with the library's ciphers, many keys, so that L and K1 begin with
// either bit.
func TestAgainstLibrary(t *testing.T) {
	for seed := range int64(40) {
		key, text := seeded(24, seed), seeded(50, seed+100)
		a, err := libaes.NewCipher(key)
		if err != nil {
			t.Fatal(err)
		}
		d, err := libdes.NewTripleDESCipher(key)
		if err != nil {
			t.Fatal(err)
		}
		for kind, library := range map[int]cipher.Block{api.AES: a, api.TDES: d} {
			c := made(t, kind, key, nil)
			do := func(b []byte) []byte {
				out := make([]byte, len(b))
				library.Encrypt(out, b)
				return out
			}
			for long := range len(text) + 1 {
				got, err := mac.Cmac(c, text[:long], c.Size())
				wantBytes(t, "CMAC", got, err, byWords(c.Size(), do, text[:long]))
			}
		}
	}
}

// P7.1, the oracle's draws, one by one: what it is asked for is seen by its rows.
func TestOracleDraws(t *testing.T) {
	// L of 80s doubled is 01s with 87 at the end, as the last byte's 00 is turned.
	high := append(filled(15, 1), 0x87)
	higher := append(append(filled(14, 2), 3), 0x0e)
	for _, x := range []struct{ l, k1, k2 []byte }{
		{filled(16, 1), filled(16, 2), filled(16, 4)},
		{filled(16, 0x80), high, higher},
		{append([]byte{0x40}, make([]byte, 15)...), append([]byte{0x80}, make([]byte, 15)...), append(make([]byte, 15), 0x87)},
		{append(make([]byte, 15), 0x80), append(make([]byte, 14), 1, 0), append(make([]byte, 14), 2, 0)},
	} {
		draws := append(bytes.Clone(x.l), sixteens(0x31, 0x32)...)
		text := seeded(32, 3)
		c, b, tp := oracle(t, draws)
		got, err := mac.Cmac(c, text, 16)
		wantBytes(t, "the code of two blocks", got, err, filled(16, 0x32))
		wantBook(t, b, tp, 3, 0)
		wantRow(t, c, make([]byte, 16), x.l)
		wantRow(t, c, text[:16], filled(16, 0x31))
		wantRow(t, c, xored(text[16:], filled(16, 0x31), x.k1), filled(16, 0x32))

		c, b, tp = oracle(t, draws)
		got, err = mac.Cmac(c, text[:19], 16)
		wantBytes(t, "the code of a block and a part", got, err, filled(16, 0x32))
		wantBook(t, b, tp, 3, 0)
		last := append(bytes.Clone(text[16:19]), 0x80, 0, 0, 0, 0, 0, 0, 0, 0, 0, 0, 0, 0)
		wantRow(t, c, xored(last, filled(16, 0x31), x.k2), filled(16, 0x32))

		c, b, tp = oracle(t, draws)
		got, err = mac.Cmac(c, nil, 16)
		wantBytes(t, "the code of nothing", got, err, filled(16, 0x31))
		wantBook(t, b, tp, 2, 16)
		wantRow(t, c, xored(append([]byte{0x80}, make([]byte, 15)...), x.k2), filled(16, 0x31))
	}
}

func xored(first []byte, others ...[]byte) []byte {
	all := bytes.Clone(first)
	for _, b := range others {
		for i := range all {
			all[i] ^= b[i]
		}
	}
	return all
}

func wantRow(t *testing.T, c *block.Cipher, in, want []byte) {
	t.Helper()
	got, err := c.Do(in, false)
	wantBytes(t, "a row", got, err, want)
}

// P7.1, what stands in a row draws nothing: a block that comes to zeros is L's,
// and a text that is asked again is answered again.
func TestRowsDrawNothing(t *testing.T) {
	c, b, x := oracle(t, sixteens(1, 0x31))
	got, err := mac.Cmac(c, filled(16, 2), 16)
	wantBytes(t, "the code of K1", got, err, filled(16, 1))
	wantBook(t, b, x, 1, 16)
	for range 3 {
		got, err = mac.Cmac(c, filled(16, 5), 16)
		wantBytes(t, "the code of another block", got, err, filled(16, 0x31))
		wantBook(t, b, x, 2, 0)
	}
}

// P7.1, n that isn't 1 to a block, with each cipher, of texts about whole blocks.
func TestWrongN(t *testing.T) {
	each(t, func(t *testing.T, fresh func() *block.Cipher) {
		c := fresh()
		size := c.Size()
		for _, long := range about(size) {
			text := seeded(long, 1)
			for _, n := range []int{math.MinInt, -size, -1, 0, size + 1, 2 * size, 64, math.MaxInt} {
				got, err := mac.Cmac(c, text, n)
				wantNumber(t, got, err, api.ErrArg)
			}
			for n := 1; n <= size; n++ {
				if got, err := mac.Cmac(c, text, n); err != nil || len(got) != n {
					t.Errorf("the first %d bytes are %x, %v", n, got, err)
				}
			}
		}
	})
	c := made(t, api.TDES, seeded(16, 1), nil)
	for n := 9; n <= 17; n++ {
		got, err := mac.Cmac(c, nil, n)
		wantNumber(t, got, err, api.ErrArg)
	}
}

// P7.1, n that isn't right draws nothing, and is told ahead of a tape that is at
// its end.
func TestWrongNDrawsNothing(t *testing.T) {
	for _, draws := range [][]byte{nil, seeded(15, 1), seeded(16, 1), seeded(160, 1)} {
		c, b, x := oracle(t, draws)
		for _, n := range []int{-1, 0, 17} {
			for _, text := range [][]byte{nil, seeded(16, 2), seeded(47, 2)} {
				got, err := mac.Cmac(c, text, n)
				wantNumber(t, got, err, api.ErrArg)
			}
		}
		wantBook(t, b, x, 0, len(draws))
	}
}

// P7.1, a tape that ends at the first draw, which is L's whatever the text: the
// cipher's own error, the tape's, is handed on.
func TestTapeEndsAtL(t *testing.T) {
	for left := range 16 {
		for _, long := range about(16) {
			for _, n := range []int{1, 4, 16} {
				c, b, x := oracle(t, seeded(left, 6))
				got, err := mac.Cmac(c, seeded(long, 4), n)
				wantTapes(t, got, err, left)
				wantBook(t, b, x, 0, left)
			}
		}
	}
}

// P7.1, tapes that end at each block of the text, ahead of a draw and in the
// middle of one: the fault tells the block's place, the tape's is behind it. Rows
// that were made by then stay.
func TestTapeEndsLater(t *testing.T) {
	for _, long := range []int{0, 1, 15, 16, 17, 31, 32, 33, 80, 81} {
		text := seeded(long, 4)
		blocks := max((long+15)/16, 1)
		for place := range blocks {
			for left := range 16 {
				draws := seeded((1+place)*16+left, 6)
				c, b, x := oracle(t, draws)
				for range 2 {
					got, err := mac.Cmac(c, text, 16)
					wantEnd(t, got, err, place, left)
					wantBook(t, b, x, 1+place, left)
				}
				wantRow(t, c, make([]byte, 16), draws[:16])
			}
		}
		c, b, x := oracle(t, seeded((1+blocks)*16, 6))
		got, err := mac.Cmac(c, text, 16)
		wantBytes(t, "the code with just as many draws", got, err, seeded((1+blocks)*16, 6)[blocks*16:])
		wantBook(t, b, x, 1+blocks, 0)
	}
}

// P7.1, a tape that ends behind draws that stand in a row already.
func TestTapeEndsBehindDrawsOfRows(t *testing.T) {
	c, b, x := oracle(t, append(sixteens(1, 1, 1), 7, 8))
	got, err := mac.Cmac(c, seeded(48, 1), 16)
	wantEnd(t, got, err, 0, 2)
	wantBook(t, b, x, 1, 2)
}

// P7.2, the retail code as it was published.
func TestPublishedRetail(t *testing.T) {
	for _, x := range []struct{ key, text, code string }{
		{"0123456789abcdeffedcba9876543210", hex.EncodeToString([]byte("Now is the time for all ")), "e9086230ca3be796"},
		{"0123456789abcdeffedcba9876543210", hex.EncodeToString([]byte("Now is the time for it")), "5a692ce64f404145"},
		{"7962d9ece03d1acd4c76089dce131543", "72c29c2371cc9bdb65b779b8e8d37b29ecc154aa56a8799fae2f498f76ed92f2", "5f1448eea8ad90a7"},
		{"7962d9ece03d1acd4c76089dce131543", "46b9342a41396cd7386bf5803104d7cedc122b9132139baf2eedc94ee178534f", "2f2d235d074d7449"},
	} {
		key, text, code := unhex(t, x.key), unhex(t, x.text), unhex(t, x.code)
		for n := 1; n <= 8; n++ {
			got, err := mac.Retail(key, text, n)
			wantBytes(t, "the retail code", got, err, code[:n])
		}
	}
}

// libRetail is the retail code, made with the library's DES.
func libRetail(t *testing.T, key, text []byte) []byte {
	t.Helper()
	first, err := libdes.NewCipher(key[:8])
	if err != nil {
		t.Fatal(err)
	}
	second, err := libdes.NewCipher(key[8:])
	if err != nil {
		t.Fatal(err)
	}
	all := append(bytes.Clone(text), 0x80)
	for len(all)%8 != 0 {
		all = append(all, 0)
	}
	cipher.NewCBCEncrypter(first, make([]byte, 8)).CryptBlocks(all, all)
	code := all[len(all)-8:]
	second.Decrypt(code, code)
	first.Encrypt(code, code)
	return bytes.Clone(code)
}

// P7.2, the retail code of texts about whole blocks is that of the library's DES,
// of unlike keys and of like ones.
func TestRetailAgainstLibrary(t *testing.T) {
	for seed := range int64(12) {
		for _, key := range [][]byte{seeded(16, seed), bytes.Repeat(seeded(8, seed), 2)} {
			for _, long := range append(about(8), 1000) {
				text := seeded(long, seed+int64(long))
				want := libRetail(t, key, text)
				for n := 1; n <= 8; n++ {
					got, err := mac.Retail(key, text, n)
					wantBytes(t, "the retail code", got, err, want[:n])
				}
			}
		}
	}
}

// P7.2, n that isn't 1 to 8, with keys of each length: n is told first.
func TestRetailWrongN(t *testing.T) {
	for _, size := range []int{0, 8, 15, 16, 17, 24} {
		for _, long := range about(8) {
			for _, n := range []int{math.MinInt, -8, -1, 0, 9, 10, 16, math.MaxInt} {
				got, err := mac.Retail(seeded(size, 1), seeded(long, 2), n)
				wantNumber(t, got, err, api.ErrArg)
			}
		}
	}
}

// P7.2, keys that haven't 16 bytes, of lengths that DES and TDES have among them.
func TestRetailWrongKey(t *testing.T) {
	for size := range 40 {
		for _, long := range about(8) {
			for n := 1; n <= 8; n++ {
				got, err := mac.Retail(seeded(size, 1), seeded(long, 2), n)
				if size != 16 {
					wantNumber(t, got, err, api.ErrSize)
				} else if err != nil || len(got) != n {
					t.Errorf("the first %d bytes are %x, %v", n, got, err)
				}
			}
		}
	}
	got, err := mac.Retail(nil, nil, 8)
	wantNumber(t, got, err, api.ErrSize)
}

// P7.2, Pad: the text, 80 and zeros, at least one byte and at most a block more.
func TestPad(t *testing.T) {
	for n := 1; n <= 64; n++ {
		for _, long := range append(about(n), 1000) {
			text := filled(long, 0xa5)
			got := mac.Pad(text, n)
			if len(got)%n != 0 || len(got) <= long || len(got) > long+n {
				t.Fatalf("%d bytes are filled up to %d, for blocks of %d", long, len(got), n)
			}
			want := append(bytes.Clone(text), 0x80)
			want = append(want, make([]byte, len(got)-long-1)...)
			wantBytes(t, "Pad", got, nil, want)
		}
	}
}

// P7.2, Pad of some texts, written out.
func TestPadWritten(t *testing.T) {
	for _, x := range []struct {
		text string
		n    int
		want string
	}{
		{"", 1, "80"},
		{"01", 1, "0180"},
		{"8080", 1, "808080"},
		{"", 8, "8000000000000000"},
		{"01020304050607", 8, "0102030405060780"},
		{"0102030405060708", 8, "01020304050607088000000000000000"},
		{"010203040506070809", 8, "01020304050607080980000000000000"},
		{"", 16, "80000000000000000000000000000000"},
		{"ff", 16, "ff800000000000000000000000000000"},
		{"000000000000000000000000000000", 16, "00000000000000000000000000000080"},
		{"0102", 4, "01028000"},
		{"010203", 3, "010203800000"},
		{"0102030405", 3, "010203040580"},
	} {
		wantBytes(t, "Pad", mac.Pad(unhex(t, x.text), x.n), nil, unhex(t, x.want))
	}
	wantBytes(t, "Pad", mac.Pad(nil, 64), nil, append([]byte{0x80}, make([]byte, 63)...))
	wantBytes(t, "Pad", mac.Pad(filled(63, 1), 64), nil, append(filled(63, 1), 0x80))
	wantBytes(t, "Pad", mac.Pad(filled(64, 1), 64), nil, append(append(filled(64, 1), 0x80), make([]byte, 63)...))
}

// oneBlocks is texts of one block: one and those that one bit makes unlike it, and
// some of one byte all along.
func oneBlocks(size int) [][]byte {
	base := seeded(size, 5)
	all := [][]byte{base}
	for bit := range size * 8 {
		other := bytes.Clone(base)
		other[bit/8] ^= 1 << (bit % 8)
		all = append(all, other)
	}
	for _, with := range []byte{0, 1, 0x7f, 0x80, 0xff} {
		all = append(all, filled(size, with))
	}
	return all
}

// P7.3, unlike texts of one block have unlike codes, with each cipher, and of the
// retail code.
func TestUnlikeCodes(t *testing.T) {
	each(t, func(t *testing.T, fresh func() *block.Cipher) {
		c := fresh()
		wantUnlike(t, oneBlocks(c.Size()), func(text []byte) ([]byte, error) {
			return mac.Cmac(c, text, c.Size())
		})
	})
	wantUnlike(t, oneBlocks(8), func(text []byte) ([]byte, error) {
		return mac.Retail(seeded(16, 1), text, 8)
	})
}

func wantUnlike(t *testing.T, texts [][]byte, code func(text []byte) ([]byte, error)) {
	t.Helper()
	seen := map[string]int{}
	for _, text := range texts {
		got, err := code(text)
		if err != nil {
			t.Fatal(err)
		}
		seen[string(got)]++
	}
	if len(seen) != len(texts) {
		t.Errorf("%d texts that are unlike have %d codes", len(texts), len(seen))
	}
}

// P7.3, what follows of parts of a block: filled up they are unlike, and so are
// their codes; zeros at the end count.
func TestUnlikeParts(t *testing.T) {
	each(t, func(t *testing.T, fresh func() *block.Cipher) {
		c := fresh()
		var texts [][]byte
		for long := range c.Size() {
			texts = append(texts, make([]byte, long))
			if long > 0 {
				texts = append(texts, append(make([]byte, long-1), 0x80))
			}
		}
		wantUnlike(t, texts, func(text []byte) ([]byte, error) { return mac.Cmac(c, text, c.Size()) })
		if c.Size() == 8 {
			wantUnlike(t, texts, func(text []byte) ([]byte, error) { return mac.Retail(seeded(16, 1), text, 8) })
		}
	})
}

// roomy is bytes with others behind them in memory, and all of these.
func roomy(b []byte) ([]byte, []byte) {
	all := append(bytes.Clone(b), filled(200, 0xee)...)
	return all[:len(b)], all
}

// P7.4, what is handed in stays, with what stands behind it in memory; so it does
// beside errors.
func TestHandedInStays(t *testing.T) {
	each(t, func(t *testing.T, fresh func() *block.Cipher) {
		size := fresh().Size()
		for _, long := range about(size) {
			for _, from := range []int{15, 16, 17} {
				text, behind := roomy(seeded(long, 1))
				key, after := roomy(seeded(from, 2))
				keptText, keptKey := bytes.Clone(behind), bytes.Clone(after)
				for n := range 18 {
					mac.Cmac(fresh(), text, n)
					mac.Retail(key, text, n)
					mac.Pad(text, n+1)
				}
				mac.Pad(text, 64)
				if !bytes.Equal(behind, keptText) || !bytes.Equal(after, keptKey) {
					t.Errorf("a text of %d bytes or a key of %d is changed", long, from)
				}
			}
		}
	})
	text, behind := roomy(seeded(48, 1))
	kept := bytes.Clone(behind)
	for _, draws := range []int{0, 15, 16, 40, 60} {
		c, _, _ := oracle(t, seeded(draws, 1))
		mac.Cmac(c, text, 16)
		mac.Cmac(c, text[:47], 16)
	}
	if !bytes.Equal(behind, kept) {
		t.Error("a text whose draws end is changed")
	}
}

// P7.4, answers are new memory: with what was handed in, or an answer, changed
// then, what was answered is as it was, and so is what is answered next.
func TestAnswersAreNew(t *testing.T) {
	each(t, func(t *testing.T, fresh func() *block.Cipher) {
		c := fresh()
		for _, long := range about(c.Size()) {
			text, key := seeded(long, 1), seeded(16, 2)
			for _, ask := range []func() ([]byte, error){
				func() ([]byte, error) { return mac.Cmac(c, text, c.Size()) },
				func() ([]byte, error) { return mac.Cmac(c, text, 1) },
				func() ([]byte, error) { return mac.Retail(key, text, 8) },
				func() ([]byte, error) { return mac.Retail(key, text, 3) },
				func() ([]byte, error) { return mac.Pad(text, 1), nil },
				func() ([]byte, error) { return mac.Pad(text, c.Size()), nil },
			} {
				one, _ := ask()
				kept := bytes.Clone(one)
				two, err := ask()
				wantBytes(t, "what is asked again", two, err, kept)
				clear(two[:cap(two)])
				wantBytes(t, "the first answer", one, nil, kept)
				three, err := ask()
				wantBytes(t, "what is asked again", three, err, kept)
				clear(text)
				clear(key)
				wantBytes(t, "the first answer", one, nil, kept)
				copy(text, seeded(long, 1))
				copy(key, seeded(16, 2))
				clear(one[:cap(one)])
				if !bytes.Equal(text, seeded(long, 1)) || !bytes.Equal(key, seeded(16, 2)) {
					t.Error("what is answered shares memory with what was handed in")
				}
			}
		}
	})
}

// P7.4, answers hang on no room behind the text, and key and text may be the same
// memory.
func TestOneMemory(t *testing.T) {
	each(t, func(t *testing.T, fresh func() *block.Cipher) {
		c := fresh()
		for _, long := range about(c.Size()) {
			text, _ := roomy(seeded(long, 1))
			want, _ := mac.Cmac(c, seeded(long, 1), c.Size())
			got, err := mac.Cmac(c, text, c.Size())
			wantBytes(t, "CMAC of a text with room behind it", got, err, want)
			wantBytes(t, "Pad of a text with room behind it", mac.Pad(text, 16), nil, mac.Pad(seeded(long, 1), 16))
		}
	})
	all := seeded(24, 2)
	want := libRetail(t, bytes.Clone(all[:16]), bytes.Clone(all))
	got, err := mac.Retail(all[:16], all, 8)
	wantBytes(t, "the retail code of its own key", got, err, want)
	got, err = mac.Retail(all[:16], all[:16], 8)
	wantBytes(t, "the retail code of its own key", got, err, libRetail(t, all[:16], all[:16]))
}

// P7.1 and P7.2, a long text.
func TestLong(t *testing.T) {
	text := seeded(60001, 1)
	a, err := libaes.NewCipher(seeded(16, 2))
	if err != nil {
		t.Fatal(err)
	}
	do := func(b []byte) []byte {
		out := make([]byte, len(b))
		a.Encrypt(out, b)
		return out
	}
	for _, long := range []int{60000, 60001} {
		got, err := mac.Cmac(made(t, api.AES, seeded(16, 2), nil), text[:long], 16)
		wantBytes(t, "CMAC of a long text", got, err, byWords(16, do, text[:long]))
		got, err = mac.Retail(seeded(16, 3), text[:long], 8)
		wantBytes(t, "the retail code of a long text", got, err, libRetail(t, seeded(16, 3), text[:long]))
	}
}

// P1, ciphers that New didn't make, and blocks that Pad doesn't speak of: no
// panic, and each call ends.
func TestNothingPanics(t *testing.T) {
	for _, c := range []*block.Cipher{nil, {}} {
		for _, text := range [][]byte{nil, make([]byte, 1), make([]byte, 16)} {
			for _, n := range []int{math.MinInt, -1, 0, 1, 8, 16, 17, math.MaxInt} {
				got, err := mac.Cmac(c, text, n)
				wantNumber(t, got, err, api.ErrArg)
			}
		}
	}
	for _, n := range []int{math.MinInt, -1, 0, 65, 1 << 40, math.MaxInt} {
		for _, long := range []int{0, 1, 64, 65} {
			if got := mac.Pad(make([]byte, long), n); len(got) != 0 {
				t.Errorf("Pad to blocks of %d is %x", n, got)
			}
		}
	}
}
