package feed

import (
	"math/rand"
	"testing"

	"gripsack/api"
	"gripsack/head"
	"gripsack/tape"
)

func pick[T any](random *rand.Rand, l ...T) T { return l[random.Intn(len(l))] }

// mixedRecords are records of which now and then one says nothing.
func mixedRecords(random *rand.Rand) string {
	s := ""
	for range random.Intn(4) {
		value := pick(random, "5", "6", "1000", "")
		if random.Intn(30) == 0 {
			value = pick(random, "x", "/", "07")
		}
		s += lines(pick(random, "path", "mtime", "mtime", "uid", "comment", "SCHILY.xattr.a"), value)
	}
	if random.Intn(60) == 0 {
		s += pick(random, "x", "6 a=b", "06 a=b\n")
	}
	return s
}

// mixedPiece is a header with what stands behind it, or something else.
func mixedPiece(random *rand.Rand) string {
	switch random.Intn(40) {
	case 0:
		return zeros(512)
	case 1:
		return pick(random, end(), end()+"behind", zeros(random.Intn(2000)))
	case 2:
		return rep("x", pick(random, 512, 1, 700))
	case 3:
		return block(api.Header{Name: "n", Type: pick(random, byte('x'), 'g', '0'), Size: 65537})
	case 4:
		return block(api.Header{Name: "n", Type: '7'})
	}
	switch random.Intn(4) {
	case 0:
		return records(pick(random, byte('x'), 'g'), mixedRecords(random))
	case 1:
		return code(pick(random, all()...))
	}
	return code(file(pick(random, "a", "b", "docs/c"), rep("d", pick(random, 0, 1, 511, 512, 513, 1500))))
}

func mixedArchive(random *rand.Rand) string {
	s := ""
	for range random.Intn(9) {
		s += mixedPiece(random)
	}
	if random.Intn(4) > 0 {
		s += end()
	}
	if s != "" && random.Intn(6) == 0 {
		s = turned(s, random.Intn(len(s)), byte(1+random.Intn(255)))
	}
	return s[:len(s)-pick(random, 0, 0, 0, random.Intn(len(s)+1))]
}

// Archives of all sorts of pieces, in all sorts of divisions.
func TestMixed(t *testing.T) {
	random := rand.New(rand.NewSource(171))
	met := map[api.Errno]int{}
	more := 0
	for range 3000 {
		s := mixedArchive(random)
		w := truthOf(s)
		for range 3 {
			w.divided(t, uneven(random.Int63()))
		}
		w.divided(t, bySize(pick(random, 512, 1024, 1+random.Intn(3000))))
		_, e := w.end(len(s))
		met[e]++
		if e != api.OK && len(w.entries[len(s)/512]) > 0 {
			more++
		}
	}
	if met[api.OK] < 600 || met[api.ErrForm] < 400 || met[api.ErrMore] < 400 || met[api.ErrLimit] < 50 || more < 600 {
		t.Errorf("the test meets %v, and %d archives that are wrong behind an entry", met, more)
	}
}

// sealedAll puts the right checksum in each block that is a header but for it.
func sealedAll(s string) string {
	b := []byte(s)
	for at := 0; at+512 <= len(b); at += 512 {
		h := b[at : at+512]
		if _, e := head.Get(string(h)); e != api.ErrForm || string(h[257:265]) != "ustar\x0000" {
			continue
		}
		copy(h[148:], "        ")
		sum := 0
		for _, c := range h {
			sum += int(c)
		}
		for i := range 6 {
			h[148+i] = byte('0' + sum>>(3*(5-i))&7)
		}
		h[154] = 0
	}
	return string(b)
}

// Whatever bytes there are, and however they are divided, the words hold.
func FuzzFeed(f *testing.F) {
	a := code(file("a", "data"))
	for _, e := range all() {
		f.Add(code(e)+end(), int64(1), true)
	}
	for i, s := range []string{"", zeros(512), end() + "behind", a + a + end(), a + zeros(512) + rep("x", 512), own("path", "q") + a + end(), own() + shared() + own() + a, shared("mtime", "5") + a + shared("mtime", "6") + a, block(api.Header{Name: "n", Size: 65537})} {
		f.Add(s, int64(i), false)
	}
	f.Fuzz(func(t *testing.T, s string, seed int64, seal bool) {
		if seal {
			s = sealedAll(s)
		}
		if len(s) > 1<<14 {
			return
		}
		w := truthOf(s)
		w.divided(t, uneven(seed))
		w.divided(t, bySize(512))
		r := w.divided(t, bySize(len(s)+1))
		// With an end behind it, a part of whole blocks is as the words say.
		if l, e := tape.Get(s[:len(s)/512*512] + end()); e == api.OK && !same(r.Entries(), l) {
			t.Errorf("17.1: Entries of %s are %s; want %s", cut(s), cut(r.Entries()), cut(l))
		}
	})
}
