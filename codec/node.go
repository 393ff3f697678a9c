package codec

import "vellum/api"

// EncodeNode makes the 128 bytes of a node.
func EncodeNode(n api.Node) ([]byte, api.Errno) {
	if n == (api.Node{}) {
		return make([]byte, api.NodeBytes), api.OK
	}
	if !nodeFits(n) {
		return nil, api.ErrField
	}
	var w writer
	w.number(n.Kind, u8)
	w.zerosTo(2)
	w.number(n.Links, u16)
	w.number(n.Parent, u32)
	w.number(n.Size, u64)
	w.number(n.Owned, u32)
	w.zerosTo(24)
	for _, pointer := range n.Direct {
		w.number(pointer, u32)
	}
	w.number(n.Single, u32)
	w.number(n.Double, u32)
	w.zerosTo(api.NodeBytes - u32)
	return w.summed(), api.OK
}

// DecodeNode reads the 128 bytes of a node.
func DecodeNode(b []byte) (n api.Node, e api.Errno) {
	if len(b) != api.NodeBytes {
		return api.Node{}, api.ErrLength
	}
	if empty(b) {
		return api.Node{}, api.OK
	}
	defer func() {
		if recover() != nil {
			n, e = api.Node{}, api.ErrCorrupt
		}
	}()
	return readNode(summedReader(b)), api.OK
}

func readNode(r *reader) api.Node {
	var n api.Node
	n.Kind = r.number(u8)
	r.zerosTo(2)
	n.Links = r.number(u16)
	n.Parent = r.number(u32)
	n.Size = r.number(u64)
	n.Owned = r.number(u32)
	r.zerosTo(24)
	n.Direct = readDirect(r)
	n.Single = r.number(u32)
	n.Double = r.number(u32)
	r.zerosTo(api.NodeBytes - u32)
	must(nodeFits(n))
	return n
}

func readDirect(r *reader) [api.Direct]int {
	var pointers [api.Direct]int
	for i := range pointers {
		pointers[i] = r.number(u32)
	}
	return pointers
}

// nodeFits says whether the fields fit of a node that is not empty.
func nodeFits(n api.Node) bool {
	return within(n.Kind, api.KFile, api.KLink) &&
		within(n.Links, 0, api.MaxLinks) &&
		parentFits(n) &&
		within(n.Size, 0, api.MaxFile) &&
		within(n.Owned, 0, api.MaxSectors) &&
		pointersFit(n)
}

func parentFits(n api.Node) bool {
	if n.Kind == api.KDir {
		return within(n.Parent, api.Root, api.MaxNodes)
	}
	return n.Parent == 0
}

func pointersFit(n api.Node) bool {
	for _, pointer := range n.Direct {
		if !pointerFits(pointer) {
			return false
		}
	}
	return pointerFits(n.Single) && pointerFits(n.Double)
}

func pointerFits(pointer int) bool { return within(pointer, 0, api.MaxSectors-1) }
