package mode_test

import (
	"bytes"
	libaes "crypto/aes"
	"crypto/cipher"
	libdes "crypto/des"
	"encoding/hex"
	"errors"
	"math/rand"
	"slices"
	"testing"

	"lockbox/api"
	"lockbox/block"
	"lockbox/mode"
	"lockbox/tape"
)

var ways = []bool{false, true}

func filled(size int, with byte) []byte { return bytes.Repeat([]byte{with}, size) }

func seeded(size int, seed int64) []byte {
	all := make([]byte, size)
	rand.New(rand.NewSource(seed)).Read(all)
	return all
}

func unhex(t *testing.T, text string) []byte {
	t.Helper()
	b, err := hex.DecodeString(text)
	if err != nil {
		t.Fatal(err)
	}
	return b
}

// sixteens is blocks of one byte each, sixteen times.
func sixteens(each ...byte) []byte {
	var all []byte
	for _, b := range each {
		all = append(all, filled(16, b)...)
	}
	return all
}

func laid(t *testing.T, draws []byte) *tape.Tape {
	t.Helper()
	x, err := tape.New(draws)
	if err != nil {
		t.Fatal(err)
	}
	return x
}

func made(t *testing.T, kind int, key []byte, b *block.Book) *block.Cipher {
	t.Helper()
	c, err := block.New(kind, key, b)
	if err != nil {
		t.Fatal(err)
	}
	return c
}

// oracle is one with a book and a tape of its own.
func oracle(t *testing.T, draws []byte) (*block.Cipher, *block.Book, *tape.Tape) {
	t.Helper()
	x := laid(t, draws)
	b := block.NewBook(x)
	return made(t, api.Oracle, []byte("a key"), b), b, x
}

// call is one of the two calls on texts, with whatever start it needs.
type call struct {
	name string
	do   func(c *block.Cipher, text []byte, back bool) ([]byte, error)
}

// calls is Alone, and Chained from a start of a block of size bytes.
func calls(size int, seed int64) []call {
	start := seeded(size, seed)
	return []call{
		{"Alone", mode.Alone},
		{"Chained", func(c *block.Cipher, text []byte, back bool) ([]byte, error) {
			return mode.Chained(c, start, text, back)
		}},
	}
}

// each does something with ciphers of all kinds and key lengths, oracles with
// many draws among them. Every call of fresh is such a cipher that was asked
// nothing yet.
func each(t *testing.T, do func(t *testing.T, fresh func() *block.Cipher)) {
	t.Helper()
	for kind, sizes := range map[int][]int{api.AES: {16, 24, 32}, api.TDES: {8, 16, 24}, api.Oracle: {1, 16, 32}} {
		for _, size := range sizes {
			key, draws := seeded(size, int64(size)), seeded(4096, 9)
			do(t, func() *block.Cipher { return made(t, kind, key, block.NewBook(laid(t, draws))) })
		}
	}
}

// wantNumber wants an error that is a number without a place, and nothing beside
// it.
func wantNumber(t *testing.T, got []byte, err error, number api.Errno) {
	t.Helper()
	if !errors.Is(err, number) || api.Code(err) != int(number) || api.At(err) != -1 {
		t.Errorf("the error is %v at %d, want %d alone", err, api.At(err), int(number))
	}
	if len(got) != 0 {
		t.Errorf("%x stands beside an error", got)
	}
}

// wantEnd wants a fault at a block's place, and behind it the tape's own, with
// how many bytes were left; and nothing beside it.
func wantEnd(t *testing.T, got []byte, err error, place, left int) {
	t.Helper()
	var outer, inner *api.Fault
	if !errors.As(err, &outer) || outer.At != place || api.At(err) != place {
		t.Fatalf("the error is %v at %d, want a fault at %d", err, api.At(err), place)
	}
	if !errors.As(outer.Err, &inner) || inner.At != left || inner == outer {
		t.Fatalf("behind the fault is %v at %d, want the tape's at %d", outer.Err, api.At(outer.Err), left)
	}
	if !errors.Is(err, api.ErrTape) || !errors.Is(inner, api.ErrTape) || api.Code(err) != 13 {
		t.Errorf("the error's number is %d, want 13", api.Code(err))
	}
	if len(got) != 0 {
		t.Errorf("%x stands beside an error", got)
	}
}

func wantBytes(t *testing.T, name string, got []byte, err error, want []byte) {
	t.Helper()
	if err != nil || !bytes.Equal(got, want) {
		t.Fatalf("%s is %x, %v, want %x", name, got, err, want)
	}
}

func wantBook(t *testing.T, b *block.Book, x *tape.Tape, rows, left int) {
	t.Helper()
	if b.Rows() != rows || x.Left() != left {
		t.Errorf("there are %d rows and %d bytes left, want %d and %d", b.Rows(), x.Left(), rows, left)
	}
}

// P6.1, the chapter's example: an empty text is enciphered to an empty one, with
// each cipher, and with an oracle that has no draw.
func TestExample(t *testing.T) {
	each(t, func(t *testing.T, fresh func() *block.Cipher) { wantEmpty(t, fresh()) })
	c, b, x := oracle(t, nil)
	wantEmpty(t, c)
	wantBook(t, b, x, 0, 0)
}

func wantEmpty(t *testing.T, c *block.Cipher) {
	t.Helper()
	for _, f := range calls(c.Size(), 1) {
		for _, text := range [][]byte{nil, {}} {
			for _, back := range ways {
				if got, err := f.do(c, text, back); err != nil || len(got) != 0 {
					t.Errorf("%s of an empty text is %x, %v", f.name, got, err)
				}
			}
		}
	}
}

// P6.1, AES as it was published with both modes, with keys of each length.
func TestPublished(t *testing.T) {
	const (
		text  = "6bc1bee22e409f96e93d7e117393172aae2d8a571e03ac9c9eb76fac45af8e5130c81c46a35ce411e5fbc1191a0a52eff69f2445df4f9b17ad2b417be66c3710"
		start = "000102030405060708090a0b0c0d0e0f"
	)
	for _, x := range []struct{ key, alone, chained string }{
		{"2b7e151628aed2a6abf7158809cf4f3c",
			"3ad77bb40d7a3660a89ecaf32466ef97f5d3d58503b9699de785895a96fdbaaf43b1cd7f598ece23881b00e3ed0306887b0c785e27e8ad3f8223207104725dd4",
			"7649abac8119b246cee98e9b12e9197d5086cb9b507219ee95db113a917678b273bed6b8e3c1743b7116e69e222295163ff1caa1681fac09120eca307586e1a7"},
		{"8e73b0f7da0e6452c810f32b809079e562f8ead2522c6b7b",
			"bd334f1d6e45f25ff712a214571fa5cc974104846d0ad3ad7734ecb3ecee4eefef7afd2270e2e60adce0ba2face6444e9a4b41ba738d6c72fb16691603c18e0e",
			"4f021db243bc633d7178183a9fa071e8b4d9ada9ad7dedf4e5e738763f69145a571b242012fb7ae07fa9baac3df102e008b0e27988598881d920a9e64f5615cd"},
		{"603deb1015ca71be2b73aef0857d77811f352c073b6108d72d9810a30914dff4",
			"f3eed1bdb5d2a03c064b5a7e3db181f8591ccb10d410ed26dc5ba74a31362870b6ed21b99ca6f4f9f153e7b1beafed1d23304b7a39f9f3ff067d8d8f9e24ecc7",
			"f58c4c04d6e5f1ba779eabfb5f7bfbd69cfc4e967edb808d679f777bc6702c7d39f23369a9d9bacfa530e26304231461b2eb05e2c39be9fcda6c19078c6a9d1b"},
	} {
		c := made(t, api.AES, unhex(t, x.key), nil)
		plain, from := unhex(t, text), unhex(t, start)
		got, err := mode.Alone(c, plain, false)
		wantBytes(t, "Alone", got, err, unhex(t, x.alone))
		got, err = mode.Alone(c, got, true)
		wantBytes(t, "Alone, back,", got, err, plain)
		got, err = mode.Chained(c, from, plain, false)
		wantBytes(t, "Chained", got, err, unhex(t, x.chained))
		got, err = mode.Chained(c, from, got, true)
		wantBytes(t, "Chained, back,", got, err, plain)
	}
}

// P6.1, AES and TDES chained are the library's, either way, of texts of 0 to 9
// blocks.
func TestAgainstLibrary(t *testing.T) {
	for seed := range int64(10) {
		key := seeded(24, seed)
		a, errA := libaes.NewCipher(key)
		d, errD := libdes.NewTripleDESCipher(key)
		if errA != nil || errD != nil {
			t.Fatal(errA, errD)
		}
		for kind, library := range map[int]cipher.Block{api.AES: a, api.TDES: d} {
			c, size := made(t, kind, key, nil), library.BlockSize()
			text, start := seeded(int(seed)*size, 50+seed), seeded(size, 80+seed)
			want := make([]byte, len(text))
			cipher.NewCBCEncrypter(library, start).CryptBlocks(want, text)
			got, err := mode.Chained(c, start, text, false)
			wantBytes(t, "Chained", got, err, want)
			cipher.NewCBCDecrypter(library, start).CryptBlocks(want, text)
			got, err = mode.Chained(c, start, text, true)
			wantBytes(t, "Chained, back,", got, err, want)
		}
	}
}

// byWords is a text, block by block as the chapter says it; start is nil where
// the blocks are alone.
func byWords(t *testing.T, c *block.Cipher, start, text []byte, back bool) []byte {
	t.Helper()
	var all []byte
	size := c.Size()
	for at := 0; at < len(text); at += size {
		in := bytes.Clone(text[at : at+size])
		turnBy := func(b []byte) {
			for i := range b {
				switch {
				case start == nil:
				case at == 0:
					b[i] ^= start[i]
				case back:
					b[i] ^= text[at-size+i]
				default:
					b[i] ^= all[at-size+i]
				}
			}
		}
		if !back {
			turnBy(in)
		}
		out, err := c.Do(in, back)
		if err != nil {
			t.Fatal(err)
		}
		if back {
			turnBy(out)
		}
		all = append(all, out...)
	}
	return all
}

// P6.1, texts of 0 to 6 blocks, with each cipher, held against the plain words:
// an oracle that was asked nothing yet is asked for the first block first,
// forth and back.
func TestAgainstWords(t *testing.T) {
	each(t, func(t *testing.T, fresh func() *block.Cipher) {
		size := fresh().Size()
		for many := range 7 {
			text, start := seeded(many*size, int64(many)), seeded(size, int64(100+many))
			for _, back := range ways {
				got, err := mode.Alone(fresh(), text, back)
				wantBytes(t, "Alone", got, err, byWords(t, fresh(), nil, text, back))
				got, err = mode.Chained(fresh(), start, text, back)
				wantBytes(t, "Chained", got, err, byWords(t, fresh(), start, text, back))
			}
		}
	})
}

// P6.1, a long text, and blocks that are alike: alone they come to the same,
// chained they don't.
func TestAlikeBlocks(t *testing.T) {
	each(t, func(t *testing.T, fresh func() *block.Cipher) {
		c := fresh()
		size := c.Size()
		text, start := filled(200*size, 3), filled(size, 0)
		got, err := mode.Alone(c, text, false)
		wantBytes(t, "Alone", got, err, bytes.Repeat(got[:size], 200))
		got, err = mode.Chained(c, start, text, false)
		if err != nil || len(got) != len(text) {
			t.Fatalf("a text of %d bytes is enciphered to %d, %v", len(text), len(got), err)
		}
		seen := map[string]int{}
		for b := range slices.Chunk(got, size) {
			seen[string(b)]++
		}
		if len(seen) != 200 {
			t.Errorf("200 blocks that are alike are chained to %d that are unlike", len(seen))
		}
	})
}

// P6.1, the oracle's draws, in the order of the blocks; a block that stands in a
// row draws none.
func TestOracleDraws(t *testing.T) {
	for _, back := range ways {
		c, b, x := oracle(t, sixteens(21, 22, 23))
		got, err := mode.Alone(c, sixteens(5, 6, 5, 5, 7, 6), back)
		wantBytes(t, "Alone", got, err, sixteens(21, 22, 21, 21, 23, 22))
		wantBook(t, b, x, 3, 0)
	}
	c, b, x := oracle(t, sixteens(21, 22, 23))
	// 1^4 is 5; 21^3 is 22; 22^2 is 20.
	got, err := mode.Chained(c, filled(16, 1), sixteens(4, 3, 2), false)
	wantBytes(t, "Chained", got, err, sixteens(21, 22, 23))
	wantBook(t, b, x, 3, 0)
	for in, want := range map[byte]byte{5: 21, 22: 22, 20: 23} {
		got, err = c.Do(filled(16, in), false)
		wantBytes(t, "a row", got, err, filled(16, want))
	}
	c, b, x = oracle(t, sixteens(21, 22, 23))
	got, err = mode.Chained(c, filled(16, 1), sixteens(4, 3, 4, 2), true)
	wantBytes(t, "Chained, back,", got, err, sixteens(21^1, 22^4, 21^3, 23^4))
	wantBook(t, b, x, 3, 0)
}

// P6.1, texts that aren't whole blocks, with each cipher: of 1 to 5 blocks one
// byte less and one more, and all others about them.
func TestNotWhole(t *testing.T) {
	each(t, func(t *testing.T, fresh func() *block.Cipher) {
		c := fresh()
		size := c.Size()
		for long := range 5*size + 2 {
			text := seeded(long, 7)
			for _, f := range calls(size, 8) {
				for _, back := range ways {
					got, err := f.do(c, text, back)
					if long%size != 0 {
						wantNumber(t, got, err, api.ErrSize)
					} else if err != nil || len(got) != long {
						t.Errorf("%s of %d bytes is %d bytes, %v", f.name, long, len(got), err)
					}
				}
			}
		}
	})
}

// P6.1, starts that aren't a block, of no byte, of one less, of one more, and of
// two blocks; beside whole texts, none at all, and those that aren't whole: the
// start is told first.
func TestStarts(t *testing.T) {
	each(t, func(t *testing.T, fresh func() *block.Cipher) {
		c := fresh()
		size := c.Size()
		for _, long := range []int{0, 1, size - 1, size, size + 1, 3*size - 1, 3 * size, 3*size + 1} {
			text := seeded(long, 2)
			for from := range 3*size + 2 {
				if from == size {
					continue
				}
				for _, back := range ways {
					got, err := mode.Chained(c, seeded(from, 3), text, back)
					wantNumber(t, got, err, api.ErrArg)
				}
			}
			got, err := mode.Chained(c, nil, text, false)
			wantNumber(t, got, err, api.ErrArg)
		}
	})
}

// P6.1, a start of another cipher's block.
func TestStartOfAnother(t *testing.T) {
	a, d := made(t, api.AES, seeded(16, 1), nil), made(t, api.TDES, seeded(16, 1), nil)
	for _, back := range ways {
		got, err := mode.Chained(a, make([]byte, 8), make([]byte, 16), back)
		wantNumber(t, got, err, api.ErrArg)
		got, err = mode.Chained(d, make([]byte, 16), make([]byte, 16), back)
		wantNumber(t, got, err, api.ErrArg)
	}
}

// P6.1, what is refused for its length draws nothing, though whole blocks stand
// ahead, and is told ahead of a tape that is at its end.
func TestRefusedDrawsNothing(t *testing.T) {
	for _, draws := range [][]byte{nil, seeded(15, 1), seeded(160, 1)} {
		c, b, x := oracle(t, draws)
		for _, back := range ways {
			got, err := mode.Alone(c, seeded(47, 2), back)
			wantNumber(t, got, err, api.ErrSize)
			got, err = mode.Chained(c, seeded(16, 3), seeded(47, 2), back)
			wantNumber(t, got, err, api.ErrSize)
			got, err = mode.Chained(c, seeded(15, 3), seeded(48, 2), back)
			wantNumber(t, got, err, api.ErrArg)
		}
		wantBook(t, b, x, 0, len(draws))
	}
}

// P6.1, tapes that end at the first, a middle and the last block, ahead of a draw
// and in the middle of one: where the fault is, and the tape's behind it. Rows
// that were made by then stay.
func TestTapeEnds(t *testing.T) {
	const many = 6
	text := seeded(many*16, 4)
	for _, f := range calls(16, 5) {
		for place := range many {
			for left := range 16 {
				for _, back := range ways {
					c, b, x := oracle(t, seeded(place*16+left, 6))
					got, err := f.do(c, text, back)
					wantEnd(t, got, err, place, left)
					wantBook(t, b, x, place, left)
					got, err = f.do(c, text, back)
					wantEnd(t, got, err, place, left)
					wantBook(t, b, x, place, left)
					if got, err = f.do(c, text[:place*16], back); err != nil || len(got) != place*16 {
						t.Errorf("%s of what has rows is %x, %v", f.name, got, err)
					}
				}
			}
		}
		c, b, x := oracle(t, seeded(many*16, 6))
		if got, err := f.do(c, text, false); err != nil || len(got) != len(text) {
			t.Errorf("%s with just as many draws is %x, %v", f.name, got, err)
		}
		wantBook(t, b, x, many, 0)
	}
}

// P6.1, the place counts all blocks, those that stand in a row already too; a
// tape that ends behind draws that stand in a row.
func TestPlaceCountsAllBlocks(t *testing.T) {
	for _, back := range ways {
		c, b, x := oracle(t, sixteens(21, 22))
		got, err := mode.Alone(c, sixteens(5, 5, 6, 5, 6, 7, 5), back)
		wantEnd(t, got, err, 5, 0)
		wantBook(t, b, x, 2, 0)
		c, b, x = oracle(t, append(sixteens(21, 21, 21), 1, 2, 3))
		got, err = mode.Alone(c, sixteens(5, 6, 7), back)
		wantEnd(t, got, err, 1, 3)
		wantBook(t, b, x, 1, 3)
	}
}

// P6.3, back undoes forth, and forth back, with each cipher, of 0 to 8 blocks.
func TestThereAndBack(t *testing.T) {
	each(t, func(t *testing.T, fresh func() *block.Cipher) {
		c := fresh()
		for many := range 9 {
			text := seeded(many*c.Size(), int64(many))
			for _, f := range calls(c.Size(), int64(many)) {
				for _, back := range ways {
					there, err := f.do(c, text, back)
					if err != nil || len(there) != len(text) {
						t.Fatalf("%s is %x, %v", f.name, there, err)
					}
					again, err := f.do(c, there, !back)
					wantBytes(t, f.name+", undone,", again, err, text)
				}
			}
		}
	})
}

// P6.3, a chained text's block hangs on those ahead alone: later ones may be
// changed, or be gone; of an earlier one that is changed every later block is
// another.
func TestBlocksHangOnThoseAhead(t *testing.T) {
	each(t, func(t *testing.T, fresh func() *block.Cipher) {
		c := fresh()
		size := c.Size()
		text, start := seeded(6*size, 1), seeded(size, 2)
		whole, err := mode.Chained(c, start, text, false)
		if err != nil {
			t.Fatal(err)
		}
		for at := range 6 {
			other := bytes.Clone(text)
			other[at*size+at] ^= 1
			changed, err := mode.Chained(c, start, other, false)
			if err != nil || !bytes.Equal(changed[:at*size], whole[:at*size]) {
				t.Errorf("the block %d, changed, changes one ahead: %v", at, err)
			}
			for later := at; later < 6; later++ {
				if bytes.Equal(changed[later*size:][:size], whole[later*size:][:size]) {
					t.Errorf("the block %d, changed, leaves the block %d as it was", at, later)
				}
			}
			short, err := mode.Chained(c, start, text[:at*size], false)
			wantBytes(t, "a shorter text", short, err, whole[:at*size])
			opened, err := mode.Chained(c, start, changed[:at*size], true)
			wantBytes(t, "a shorter text, back,", opened, err, text[:at*size])
		}
	})
}

// P6.3, a block that is deciphered hangs on itself and the one ahead.
func TestDecipheredBlocksHang(t *testing.T) {
	each(t, func(t *testing.T, fresh func() *block.Cipher) {
		c := fresh()
		size := c.Size()
		text, start := seeded(6*size, 1), seeded(size, 2)
		whole, err := mode.Chained(c, start, text, true)
		if err != nil {
			t.Fatal(err)
		}
		for at := range 6 {
			other := bytes.Clone(text)
			other[at*size] ^= 0x80
			changed, err := mode.Chained(c, start, other, true)
			if err != nil {
				t.Fatal(err)
			}
			for place := range 6 {
				same := bytes.Equal(changed[place*size:][:size], whole[place*size:][:size])
				if same != (place != at && place != at+1) {
					t.Errorf("the block %d, changed: the block %d is the same: %v", at, place, same)
				}
			}
		}
	})
}

// P6.1 and P6.3, another start is another text, and it comes back by its own
// alone.
func TestOtherStarts(t *testing.T) {
	each(t, func(t *testing.T, fresh func() *block.Cipher) {
		c := fresh()
		size := c.Size()
		text, start := seeded(3*size, 1), seeded(size, 2)
		for i := range size {
			other := bytes.Clone(start)
			other[i] ^= 0x10
			one, _ := mode.Chained(c, start, text, false)
			two, err := mode.Chained(c, other, text, false)
			if err != nil || bytes.Equal(one[:size], two[:size]) || bytes.Equal(one[2*size:], two[2*size:]) {
				t.Errorf("another start leaves blocks as they were: %v", err)
			}
			want := bytes.Clone(text)
			want[i] ^= 0x10
			got, err := mode.Chained(c, other, one, true)
			wantBytes(t, "from another start", got, err, want)
		}
	})
}

// P6.2, Xor of none, and of like lengths, each pair of bytes among them.
func TestXor(t *testing.T) {
	for _, x := range [][2][]byte{{nil, nil}, {nil, {}}, {{}, nil}, {{}, {}}} {
		if got, err := mode.Xor(x[0], x[1]); err != nil || len(got) != 0 {
			t.Errorf("Xor of nothing is %x, %v", got, err)
		}
	}
	got, err := mode.Xor([]byte{0x0f, 0xff, 0x00, 0x53}, []byte{0xf1, 0xff, 0xca, 0x35})
	wantBytes(t, "Xor", got, err, []byte{0xfe, 0x00, 0xca, 0x66})
	for a := range 256 {
		many, all, want := filled(256, byte(a)), make([]byte, 256), make([]byte, 256)
		for b := range 256 {
			all[b] = byte(b)
			for bit := range 8 {
				if a>>bit&1 != b>>bit&1 {
					want[b] |= 1 << bit
				}
			}
		}
		got, err := mode.Xor(many, all)
		wantBytes(t, "Xor", got, err, want)
		got, err = mode.Xor(all, many)
		wantBytes(t, "Xor", got, err, want)
		got, err = mode.Xor(got, many)
		wantBytes(t, "Xor, twice,", got, err, all)
	}
	long := seeded(100003, 1)
	got, err = mode.Xor(long, long)
	wantBytes(t, "Xor of a text with itself", got, err, make([]byte, len(long)))
}

// P6.2, Xor of unlike lengths, either of them the longer one.
func TestXorUnlike(t *testing.T) {
	for a := range 40 {
		for b := range 40 {
			got, err := mode.Xor(seeded(a, 1), seeded(b, 2))
			if a != b {
				wantNumber(t, got, err, api.ErrSize)
			} else if err != nil || len(got) != a {
				t.Errorf("Xor of %d bytes is %x, %v", a, got, err)
			}
		}
	}
	got, err := mode.Xor(nil, make([]byte, 1<<20))
	wantNumber(t, got, err, api.ErrSize)
}

// roomy is bytes with others behind them in memory, and all of these.
func roomy(b []byte) ([]byte, []byte) {
	all := append(bytes.Clone(b), filled(64, 0xee)...)
	return all[:len(b)], all
}

// P6.4, what is handed in stays, with what stands behind it in memory; so it does
// beside errors.
func TestHandedInStays(t *testing.T) {
	each(t, func(t *testing.T, fresh func() *block.Cipher) {
		size := fresh().Size()
		for _, long := range []int{0, size, 4 * size, 4*size + 1} {
			for _, from := range []int{size, size - 1} {
				text, behind := roomy(seeded(long, 1))
				start, after := roomy(seeded(from, 2))
				keptText, keptStart := bytes.Clone(behind), bytes.Clone(after)
				for _, back := range ways {
					mode.Alone(fresh(), text, back)
					mode.Chained(fresh(), start, text, back)
				}
				mode.Xor(text, text)
				mode.Xor(start, text)
				if !bytes.Equal(behind, keptText) || !bytes.Equal(after, keptStart) {
					t.Errorf("a text of %d bytes or a start of %d is changed", long, from)
				}
			}
		}
	})
	c, _, _ := oracle(t, seeded(20, 1))
	text := seeded(48, 1)
	for _, f := range calls(16, 3) {
		f.do(c, text, false)
	}
	if !bytes.Equal(text, seeded(48, 1)) {
		t.Error("a text whose draws end is changed")
	}
}

// P6.4, answers are new memory: with what was handed in, or an answer, changed
// then, what was answered is as it was, and so is what is answered next.
func TestAnswersAreNew(t *testing.T) {
	each(t, func(t *testing.T, fresh func() *block.Cipher) {
		c := fresh()
		size := c.Size()
		for _, many := range []int{1, 2, 5} {
			for _, back := range ways {
				text, start := seeded(many*size, 1), seeded(size, 2)
				asks := []func() ([]byte, error){
					func() ([]byte, error) { return mode.Alone(c, text, back) },
					func() ([]byte, error) { return mode.Chained(c, start, text, back) },
					func() ([]byte, error) { return mode.Xor(text, make([]byte, len(text))) },
					func() ([]byte, error) { return mode.Xor(make([]byte, len(text)), text) },
				}
				for _, ask := range asks {
					one, _ := ask()
					kept := bytes.Clone(one)
					two, err := ask()
					wantBytes(t, "what is asked again", two, err, kept)
					clear(two)
					wantBytes(t, "the first answer", one, nil, kept)
					three, err := ask()
					wantBytes(t, "what is asked again", three, err, kept)
					clear(text)
					clear(start)
					wantBytes(t, "the first answer", one, nil, kept)
					copy(text, seeded(many*size, 1))
					copy(start, seeded(size, 2))
					clear(one)
					if !bytes.Equal(text, seeded(many*size, 1)) || !bytes.Equal(start, seeded(size, 2)) {
						t.Error("what is answered shares memory with what was handed in")
					}
				}
			}
		}
	})
}

// P6.4, text and start may be the same memory, or lie in one.
func TestOneMemory(t *testing.T) {
	c := made(t, api.AES, seeded(16, 1), nil)
	for _, back := range ways {
		all := seeded(64, 2)
		want := byWords(t, c, bytes.Clone(all[:16]), bytes.Clone(all), back)
		got, err := mode.Chained(c, all[:16], all, back)
		wantBytes(t, "Chained from its own block", got, err, want)
		want = byWords(t, c, bytes.Clone(all[48:]), bytes.Clone(all[:48]), back)
		got, err = mode.Chained(c, all[48:], all[:48], back)
		wantBytes(t, "Chained from the block behind", got, err, want)
	}
}

// P1, ciphers that New didn't make: no panic, and each call ends.
func TestNothingPanics(t *testing.T) {
	for _, c := range []*block.Cipher{nil, {}} {
		for _, text := range [][]byte{nil, make([]byte, 1), make([]byte, 16)} {
			for _, back := range ways {
				got, err := mode.Alone(c, text, back)
				wantNumber(t, got, err, api.ErrSize)
				got, err = mode.Chained(c, make([]byte, 16), text, back)
				wantNumber(t, got, err, api.ErrArg)
				got, err = mode.Chained(c, nil, text, back)
				wantNumber(t, got, err, api.ErrSize)
			}
		}
	}
}
