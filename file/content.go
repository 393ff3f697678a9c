package file

import (
	"vellum/api"
	"vellum/halt"
)

// read tells a stretch of a content.
func (f *Files) read(node int, s stretch) []byte {
	data := make([]byte, s.to-s.from)
	for index, part := range s.parts() {
		if block := halt.Got(f.Where(node, index)); block != 0 {
			copy(data[part.from-s.from:], part.of(halt.Got(f.Get(block))))
		}
	}
	return data
}

// write lays bytes into a content, and takes the blocks that are missing there.
func (f *Files) write(node, off int, data []byte) {
	for index, part := range (stretch{from: off, to: off + len(data)}).parts() {
		f.change(halt.Got(f.grown(node, index)), func(content []byte) {
			copy(part.of(content), data[part.from-off:])
		})
	}
}

// zero makes zeros of a stretch where there are blocks.
func (f *Files) zero(node int, s stretch) {
	for index, part := range s.parts() {
		if block := halt.Got(f.Where(node, index)); block != 0 {
			f.change(block, func(content []byte) { clear(part.of(content)) })
		}
	}
}

// wipe frees the blocks of which the stretch has all bytes below the size, and makes zeros of the rest of it, at its ends.
func (f *Files) wipe(node int, s stretch, size int) {
	first, end := indexesTo(s.from), s.to/api.Size
	if s.to == size {
		end = indexesTo(size) // of the last index no byte that counts is left out
	}
	end = max(first, end)
	halt.On(f.Punch(node, first, end))
	f.zero(node, stretch{from: s.from, to: min(s.to, first*api.Size)})
	f.zero(node, stretch{from: end * api.Size, to: s.to})
}

// change lets do change the bytes of a block.
func (f *Files) change(block int, do func(content []byte)) {
	content := halt.Got(f.Get(block))
	do(content)
	halt.On(f.Put(block, content))
}

// grown is the block at an index, taken now if there was none: a fresh one holds zeros, so both are alike here.
func (f *Files) grown(node, index int) (int, api.Errno) {
	block, _, e := f.Grow(node, index)
	return block, e
}

func (f *Files) size(node int) int { return halt.Got(f.Load(node)).Size }

// setSize saves the node, if that is another size. It loads it anew: its pointers may have changed since it was last asked for.
func (f *Files) setSize(node, size int) {
	n := halt.Got(f.Load(node))
	if n.Size == size {
		return
	}
	n.Size = size
	halt.On(f.Save(node, n))
}
