package codec_test

import (
	"encoding/binary"
	"hash/crc32"
	"math"
	"strings"

	"vellum/api"
)

// A plain model of the chapter's words: the records by the offsets of its tables, the sum bit by bit. It shares nothing with the package but api.

func modelSum(b []byte) int {
	register := uint32(0xFFFFFFFF)
	for _, x := range b {
		register ^= uint32(x)
		for range 8 {
			if register&1 == 1 {
				register = register>>1 ^ 0x82F63B78
			} else {
				register >>= 1
			}
		}
	}
	return int(^register)
}

// resum lays the right sum into the last four bytes, by the library's own CRC32C, which is faster.
func resum(b []byte) []byte {
	at := len(b) - 4
	binary.LittleEndian.PutUint32(b[at:], crc32.Checksum(b[:at], crc32.MakeTable(crc32.Castagnoli)))
	return b
}

func modelName(s string) api.Errno {
	switch {
	case len(s) > 54:
		return api.ErrLong
	case s == "", s == ".", s == "..", strings.Contains(s, "/"), strings.Contains(s, "\x00"):
		return api.ErrName
	}
	return api.OK
}

// modelPlan reckons with floats, which do not wrap round.
func modelPlan(s api.Super) (api.Layout, api.Errno) {
	blocks := float64(s.Sectors) - 3 - float64(s.Log)
	data := 2 + math.Floor(float64(s.Nodes)/4)
	if s.Log < 18 || s.Log > 256 || s.Nodes < 4 || s.Nodes > 1024 || s.Nodes%4 != 0 || s.Sectors > 2048 || blocks < data+1 {
		return api.Layout{}, api.ErrGeometry
	}
	return api.Layout{Log: s.Log, Home: 3 + s.Log, Blocks: int(blocks), Nodes: s.Nodes, Data: int(data)}, api.OK
}

func modelEncodeSuper(s api.Super) ([]byte, api.Errno) {
	if _, e := modelPlan(s); e != api.OK {
		return nil, api.ErrGeometry
	}
	b := make([]byte, 512)
	copy(b, []byte{'v', 'e', 'l', 'l', 'u', 'm', 0, 1})
	binary.LittleEndian.PutUint32(b[8:], uint32(s.Sectors))
	binary.LittleEndian.PutUint32(b[12:], uint32(s.Log))
	binary.LittleEndian.PutUint32(b[16:], uint32(s.Nodes))
	return resum(b), api.OK
}

// modelDecodeSuper takes the fields as they stand, and asks whether the encoder makes these bytes of them.
func modelDecodeSuper(b []byte) (api.Super, api.Errno) {
	if len(b) != 512 {
		return api.Super{}, api.ErrLength
	}
	s := api.Super{
		Sectors: int(binary.LittleEndian.Uint32(b[8:])),
		Log:     int(binary.LittleEndian.Uint32(b[12:])),
		Nodes:   int(binary.LittleEndian.Uint32(b[16:])),
	}
	if made, e := modelEncodeSuper(s); e != api.OK || string(made) != string(b) {
		return api.Super{}, api.ErrCorrupt
	}
	return s, api.OK
}

func modelNodeFits(n api.Node) bool {
	if n.Kind < 1 || n.Kind > 3 || n.Links < 0 || n.Links > 64 || n.Size < 0 || n.Size > 8459264 || n.Owned < 0 || n.Owned > 2048 {
		return false
	}
	if n.Kind == 2 && (n.Parent < 1 || n.Parent > 1024) || n.Kind != 2 && n.Parent != 0 {
		return false
	}
	for _, p := range append(n.Direct[:], n.Single, n.Double) {
		if p < 0 || p > 2047 {
			return false
		}
	}
	return true
}

func modelEncodeNode(n api.Node) ([]byte, api.Errno) {
	b := make([]byte, 128)
	if n == (api.Node{}) {
		return b, api.OK
	}
	if !modelNodeFits(n) {
		return nil, api.ErrField
	}
	b[0] = byte(n.Kind)
	binary.LittleEndian.PutUint16(b[2:], uint16(n.Links))
	binary.LittleEndian.PutUint32(b[4:], uint32(n.Parent))
	binary.LittleEndian.PutUint64(b[8:], uint64(n.Size))
	binary.LittleEndian.PutUint32(b[16:], uint32(n.Owned))
	for i, p := range n.Direct {
		binary.LittleEndian.PutUint32(b[24+4*i:], uint32(p))
	}
	binary.LittleEndian.PutUint32(b[64:], uint32(n.Single))
	binary.LittleEndian.PutUint32(b[68:], uint32(n.Double))
	return resum(b), api.OK
}

func modelDecodeNode(b []byte) (api.Node, api.Errno) {
	if len(b) != 128 {
		return api.Node{}, api.ErrLength
	}
	n := api.Node{
		Kind:   int(b[0]),
		Links:  int(binary.LittleEndian.Uint16(b[2:])),
		Parent: int(binary.LittleEndian.Uint32(b[4:])),
		Size:   int(binary.LittleEndian.Uint64(b[8:])),
		Owned:  int(binary.LittleEndian.Uint32(b[16:])),
		Single: int(binary.LittleEndian.Uint32(b[64:])),
		Double: int(binary.LittleEndian.Uint32(b[68:])),
	}
	for i := range n.Direct {
		n.Direct[i] = int(binary.LittleEndian.Uint32(b[24+4*i:]))
	}
	if made, e := modelEncodeNode(n); e != api.OK || string(made) != string(b) {
		return api.Node{}, api.ErrCorrupt
	}
	return n, api.OK
}

func modelEncodeEntry(x api.Entry) ([]byte, api.Errno) {
	b := make([]byte, 64)
	if x.Node == 0 && x.Kind == 0 && x.Name == "" {
		return b, api.OK
	}
	if x.Node < 1 || x.Node > 1024 || x.Kind < 1 || x.Kind > 3 || modelName(x.Name) != api.OK {
		return nil, api.ErrField
	}
	binary.LittleEndian.PutUint32(b, uint32(x.Node))
	b[4] = byte(x.Kind)
	b[5] = byte(len(x.Name))
	copy(b[6:], x.Name)
	return resum(b), api.OK
}

func modelDecodeEntry(b []byte) (api.Entry, api.Errno) {
	if len(b) != 64 {
		return api.Entry{}, api.ErrLength
	}
	if b[5] > 54 {
		return api.Entry{}, api.ErrCorrupt
	}
	x := api.Entry{Node: int(binary.LittleEndian.Uint32(b)), Kind: int(b[4]), Name: string(b[6 : 6+int(b[5])])}
	if made, e := modelEncodeEntry(x); e != api.OK || string(made) != string(b) {
		return api.Entry{}, api.ErrCorrupt
	}
	return x, api.OK
}

// dice: a row of numbers that is the same in each run.
type dice uint64

func (d *dice) below(n int) int {
	*d = *d*6364136223846793005 + 1442695040888963407
	return int(uint64(*d) >> 33 % uint64(n))
}

func (d *dice) bytes(n int) []byte {
	b := make([]byte, n)
	for i := range b {
		b[i] = byte(d.below(256))
	}
	return b
}
