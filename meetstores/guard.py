"""Guarded blocks: octets with eight check octets, of which up to two changed ones are mended (point 4)."""

from meetstores.errors import BadOctets
from meetstores.octets import is_octets

MANY_CHECKS = 8
MOST_GUARDED = 100
LOW_SEVEN = 0x00ffffffffffffff
# The powers of 2 in the field, from the power 0 to 254, and the power of 2 that each octet is (0 is none).
POWERS = (
    1, 2, 4, 8, 16, 32, 64, 128, 29, 58, 116, 232, 205, 135, 19, 38, 76, 152, 45, 90,
    180, 117, 234, 201, 143, 3, 6, 12, 24, 48, 96, 192, 157, 39, 78, 156, 37, 74, 148, 53,
    106, 212, 181, 119, 238, 193, 159, 35, 70, 140, 5, 10, 20, 40, 80, 160, 93, 186, 105, 210,
    185, 111, 222, 161, 95, 190, 97, 194, 153, 47, 94, 188, 101, 202, 137, 15, 30, 60, 120, 240,
    253, 231, 211, 187, 107, 214, 177, 127, 254, 225, 223, 163, 91, 182, 113, 226, 217, 175, 67, 134,
    17, 34, 68, 136, 13, 26, 52, 104, 208, 189, 103, 206, 129, 31, 62, 124, 248, 237, 199, 147,
    59, 118, 236, 197, 151, 51, 102, 204, 133, 23, 46, 92, 184, 109, 218, 169, 79, 158, 33, 66,
    132, 21, 42, 84, 168, 77, 154, 41, 82, 164, 85, 170, 73, 146, 57, 114, 228, 213, 183, 115,
    230, 209, 191, 99, 198, 145, 63, 126, 252, 229, 215, 179, 123, 246, 241, 255, 227, 219, 171, 75,
    150, 49, 98, 196, 149, 55, 110, 220, 165, 87, 174, 65, 130, 25, 50, 100, 200, 141, 7, 14,
    28, 56, 112, 224, 221, 167, 83, 166, 81, 162, 89, 178, 121, 242, 249, 239, 195, 155, 43, 86,
    172, 69, 138, 9, 18, 36, 72, 144, 61, 122, 244, 245, 247, 243, 251, 235, 203, 139, 11, 22,
    44, 88, 176, 125, 250, 233, 207, 131, 27, 54, 108, 216, 173, 71, 142,
)
LOGS = (
    0, 0, 1, 25, 2, 50, 26, 198, 3, 223, 51, 238, 27, 104, 199, 75, 4, 100, 224, 14,
    52, 141, 239, 129, 28, 193, 105, 248, 200, 8, 76, 113, 5, 138, 101, 47, 225, 36, 15, 33,
    53, 147, 142, 218, 240, 18, 130, 69, 29, 181, 194, 125, 106, 39, 249, 185, 201, 154, 9, 120,
    77, 228, 114, 166, 6, 191, 139, 98, 102, 221, 48, 253, 226, 152, 37, 179, 16, 145, 34, 136,
    54, 208, 148, 206, 143, 150, 219, 189, 241, 210, 19, 92, 131, 56, 70, 64, 30, 66, 182, 163,
    195, 72, 126, 110, 107, 58, 40, 84, 250, 133, 186, 61, 202, 94, 155, 159, 10, 21, 121, 43,
    78, 212, 229, 172, 115, 243, 167, 87, 7, 112, 192, 247, 140, 128, 99, 13, 103, 74, 222, 237,
    49, 197, 254, 24, 227, 165, 153, 119, 38, 184, 180, 124, 17, 68, 146, 217, 35, 32, 137, 46,
    55, 63, 209, 91, 149, 188, 207, 205, 144, 135, 151, 178, 220, 252, 190, 97, 242, 86, 211, 171,
    20, 42, 93, 158, 132, 60, 57, 83, 71, 109, 65, 162, 31, 45, 67, 216, 183, 123, 164, 118,
    196, 23, 73, 236, 127, 12, 111, 246, 108, 161, 59, 82, 41, 157, 85, 170, 251, 96, 134, 177,
    187, 204, 62, 90, 203, 89, 95, 176, 156, 169, 160, 81, 11, 245, 22, 235, 122, 117, 44, 215,
    79, 174, 213, 233, 230, 231, 173, 232, 116, 214, 244, 234, 168, 80, 88, 175,
)
# The eight check octets of each single octet, as one number: a step takes one look instead of eight products.
CHECKS = (
    0x0000000000000000, 0xff0b5136efadc818, 0xe316a26cc3478d30, 0x1c1df35a2cea4528, 0xdb2c59d89b8e0760,
    0x242708ee7423cf78, 0x383afbb458c98a50, 0xc731aa82b7644248, 0xab58b2ad2b010ec0, 0x5453e39bc4acc6d8,
    0x484e10c1e84683f0, 0xb74541f707eb4be8, 0x7074eb75b08f09a0, 0x8f7fba435f22c1b8, 0x9362491973c88490,
    0x6c69182f9c654c88, 0x4bb0794756021c9d, 0xb4bb2871b9afd485, 0xa8a6db2b954591ad, 0x57ad8a1d7ae859b5,
    0x909c209fcd8c1bfd, 0x6f9771a92221d3e5, 0x738a82f30ecb96cd, 0x8c81d3c5e1665ed5, 0xe0e8cbea7d03125d,
    0x1fe39adc92aeda45, 0x03fe6986be449f6d, 0xfcf538b051e95775, 0x3bc49232e68d153d, 0xc4cfc3040920dd25,
    0xd8d2305e25ca980d, 0x27d96168ca675015, 0x967df28eac043827, 0x6976a3b843a9f03f, 0x756b50e26f43b517,
    0x8a6001d480ee7d0f, 0x4d51ab56378a3f47, 0xb25afa60d827f75f, 0xae47093af4cdb277, 0x514c580c1b607a6f,
    0x3d254023870536e7, 0xc22e111568a8feff, 0xde33e24f4442bbd7, 0x2138b379abef73cf, 0xe60919fb1c8b3187,
    0x190248cdf326f99f, 0x051fbb97dfccbcb7, 0xfa14eaa1306174af, 0xddcd8bc9fa0624ba, 0x22c6daff15abeca2,
    0x3edb29a53941a98a, 0xc1d07893d6ec6192, 0x06e1d211618823da, 0xf9ea83278e25ebc2, 0xe5f7707da2cfaeea,
    0x1afc214b4d6266f2, 0x76953964d1072a7a, 0x899e68523eaae262, 0x95839b081240a74a, 0x6a88ca3efded6f52,
    0xadb960bc4a892d1a, 0x52b2318aa524e502, 0x4eafc2d089cea02a, 0xb1a493e666636832, 0x31faf9014508704e,
    0xcef1a837aaa5b856, 0xd2ec5b6d864ffd7e, 0x2de70a5b69e23566, 0xead6a0d9de86772e, 0x15ddf1ef312bbf36,
    0x09c002b51dc1fa1e, 0xf6cb5383f26c3206, 0x9aa24bac6e097e8e, 0x65a91a9a81a4b696, 0x79b4e9c0ad4ef3be,
    0x86bfb8f642e33ba6, 0x418e1274f58779ee, 0xbe8543421a2ab1f6, 0xa298b01836c0f4de, 0x5d93e12ed96d3cc6,
    0x7a4a8046130a6cd3, 0x8541d170fca7a4cb, 0x995c222ad04de1e3, 0x6657731c3fe029fb, 0xa166d99e88846bb3,
    0x5e6d88a86729a3ab, 0x42707bf24bc3e683, 0xbd7b2ac4a46e2e9b, 0xd11232eb380b6213, 0x2e1963ddd7a6aa0b,
    0x32049087fb4cef23, 0xcd0fc1b114e1273b, 0x0a3e6b33a3856573, 0xf5353a054c28ad6b, 0xe928c95f60c2e843,
    0x162398698f6f205b, 0xa7870b8fe90c4869, 0x588c5ab906a18071, 0x4491a9e32a4bc559, 0xbb9af8d5c5e60d41,
    0x7cab525772824f09, 0x83a003619d2f8711, 0x9fbdf03bb1c5c239, 0x60b6a10d5e680a21, 0x0cdfb922c20d46a9,
    0xf3d4e8142da08eb1, 0xefc91b4e014acb99, 0x10c24a78eee70381, 0xd7f3e0fa598341c9, 0x28f8b1ccb62e89d1,
    0x34e542969ac4ccf9, 0xcbee13a0756904e1, 0xec3772c8bf0e54f4, 0x133c23fe50a39cec, 0x0f21d0a47c49d9c4,
    0xf02a819293e411dc, 0x371b2b1024805394, 0xc8107a26cb2d9b8c, 0xd40d897ce7c7dea4, 0x2b06d84a086a16bc,
    0x476fc065940f5a34, 0xb86491537ba2922c, 0xa47962095748d704, 0x5b72333fb8e51f1c, 0x9c4399bd0f815d54,
    0x6348c88be02c954c, 0x7f553bd1ccc6d064, 0x805e6ae7236b187c, 0x62e9ef028a10e09c, 0x9de2be3465bd2884,
    0x81ff4d6e49576dac, 0x7ef41c58a6faa5b4, 0xb9c5b6da119ee7fc, 0x46cee7ecfe332fe4, 0x5ad314b6d2d96acc,
    0xa5d845803d74a2d4, 0xc9b15dafa111ee5c, 0x36ba0c994ebc2644, 0x2aa7ffc36256636c, 0xd5acaef58dfbab74,
    0x129d04773a9fe93c, 0xed965541d5322124, 0xf18ba61bf9d8640c, 0x0e80f72d1675ac14, 0x29599645dc12fc01,
    0xd652c77333bf3419, 0xca4f34291f557131, 0x3544651ff0f8b929, 0xf275cf9d479cfb61, 0x0d7e9eaba8313379,
    0x11636df184db7651, 0xee683cc76b76be49, 0x820124e8f713f2c1, 0x7d0a75de18be3ad9, 0x6117868434547ff1,
    0x9e1cd7b2dbf9b7e9, 0x592d7d306c9df5a1, 0xa6262c0683303db9, 0xba3bdf5cafda7891, 0x45308e6a4077b089,
    0xf4941d8c2614d8bb, 0x0b9f4cbac9b910a3, 0x1782bfe0e553558b, 0xe889eed60afe9d93, 0x2fb84454bd9adfdb,
    0xd0b31562523717c3, 0xccaee6387edd52eb, 0x33a5b70e91709af3, 0x5fccaf210d15d67b, 0xa0c7fe17e2b81e63,
    0xbcda0d4dce525b4b, 0x43d15c7b21ff9353, 0x84e0f6f9969bd11b, 0x7beba7cf79361903, 0x67f6549555dc5c2b,
    0x98fd05a3ba719433, 0xbf2464cb7016c426, 0x402f35fd9fbb0c3e, 0x5c32c6a7b3514916, 0xa33997915cfc810e,
    0x64083d13eb98c346, 0x9b036c2504350b5e, 0x871e9f7f28df4e76, 0x7815ce49c772866e, 0x147cd6665b17cae6,
    0xeb778750b4ba02fe, 0xf76a740a985047d6, 0x0861253c77fd8fce, 0xcf508fbec099cd86, 0x305bde882f34059e,
    0x2c462dd203de40b6, 0xd34d7ce4ec7388ae, 0x53131603cf1890d2, 0xac18473520b558ca, 0xb005b46f0c5f1de2,
    0x4f0ee559e3f2d5fa, 0x883f4fdb549697b2, 0x77341eedbb3b5faa, 0x6b29edb797d11a82, 0x9422bc81787cd29a,
    0xf84ba4aee4199e12, 0x0740f5980bb4560a, 0x1b5d06c2275e1322, 0xe45657f4c8f3db3a, 0x2367fd767f979972,
    0xdc6cac40903a516a, 0xc0715f1abcd01442, 0x3f7a0e2c537ddc5a, 0x18a36f44991a8c4f, 0xe7a83e7276b74457,
    0xfbb5cd285a5d017f, 0x04be9c1eb5f0c967, 0xc38f369c02948b2f, 0x3c8467aaed394337, 0x209994f0c1d3061f,
    0xdf92c5c62e7ece07, 0xb3fbdde9b21b828f, 0x4cf08cdf5db64a97, 0x50ed7f85715c0fbf, 0xafe62eb39ef1c7a7,
    0x68d78431299585ef, 0x97dcd507c6384df7, 0x8bc1265dead208df, 0x74ca776b057fc0c7, 0xc56ee48d631ca8f5,
    0x3a65b5bb8cb160ed, 0x267846e1a05b25c5, 0xd97317d74ff6eddd, 0x1e42bd55f892af95, 0xe149ec63173f678d,
    0xfd541f393bd522a5, 0x025f4e0fd478eabd, 0x6e365620481da635, 0x913d0716a7b06e2d, 0x8d20f44c8b5a2b05,
    0x722ba57a64f7e31d, 0xb51a0ff8d393a155, 0x4a115ece3c3e694d, 0x560cad9410d42c65, 0xa907fca2ff79e47d,
    0x8ede9dca351eb468, 0x71d5ccfcdab37c70, 0x6dc83fa6f6593958, 0x92c36e9019f4f140, 0x55f2c412ae90b308,
    0xaaf99524413d7b10, 0xb6e4667e6dd73e38, 0x49ef3748827af620, 0x25862f671e1fbaa8, 0xda8d7e51f1b272b0,
    0xc6908d0bdd583798, 0x399bdc3d32f5ff80, 0xfeaa76bf8591bdc8, 0x01a127896a3c75d0, 0x1dbcd4d346d630f8,
    0xe2b785e5a97bf8e0,
)


def octet_product(one, two):
    """The product of two octets in the field of 256."""
    if one == 0 or two == 0:
        return 0
    return POWERS[(LOGS[one] + LOGS[two]) % 255]


def octet_quotient(one, two):
    """What times two, which is not 0, is one, in the field of 256."""
    if one == 0:
        return 0
    return POWERS[(LOGS[one] - LOGS[two]) % 255]


def check_number(octets):
    """The eight check octets of some octets, as one number, the first one at its top."""
    rest = 0
    for octet in octets:
        rest = ((rest & LOW_SEVEN) << 8) ^ CHECKS[(rest >> 56) ^ octet]
    return rest


def eight_octets(number):
    """The eight octets that a number is put together of, the one at its top first."""
    return tuple([(number >> shift) & 255 for shift in (56, 48, 40, 32, 24, 16, 8, 0)])


def as_number(octets):
    """Eight octets put together as one number, the first one at its top."""
    number = 0
    for octet in octets:
        number = (number << 8) | octet
    return number


def sums_of(fault):
    """The values at 1, 2, 4 .. 128 of the polynomial of eight octets by which a block is not guarded."""
    sums = []
    for power in range(MANY_CHECKS):
        total = 0
        for octet in eight_octets(fault):
            total = octet_product(total, POWERS[power]) ^ octet
        sums.append(total)
    return sums


def one_change(sums, length):
    """The one (power, change) that makes these sums in a block of a length, in a list; None if there is none."""
    # A change shows at all eight places.
    if 0 in sums:
        return None
    ratio = octet_quotient(sums[1], sums[0])
    for k in range(1, MANY_CHECKS):
        if octet_product(sums[k - 1], ratio) != sums[k]:
            return None
    if LOGS[ratio] >= length:
        return None
    return [(LOGS[ratio], sums[0])]


def two_changes(sums, length, spread):
    """The two (power, change) that make these sums in a block of a length, in a list; None if there are none.

    Two changes at the places of x and y make each sum of the one before times x + y and the one before that
    times x * y. The spread, which is not 0, is what both are found by.
    """
    both = octet_quotient(octet_product(sums[1], sums[2]) ^ octet_product(sums[0], sums[3]), spread)
    times = octet_quotient(octet_product(sums[1], sums[3]) ^ octet_product(sums[2], sums[2]), spread)
    for k in range(2, MANY_CHECKS):
        if octet_product(both, sums[k - 1]) ^ octet_product(times, sums[k - 2]) != sums[k]:
            return None
    powers = [k for k in range(length) if octet_product(POWERS[k], POWERS[k] ^ both) == times]
    if len(powers) != 2:
        return None
    second = octet_quotient(sums[1] ^ octet_product(sums[0], POWERS[powers[0]]), both)
    return [(powers[0], sums[0] ^ second), (powers[1], second)]


def changes_of(fault, length):
    """The one or two (power, change) by which a block has become faulty, in a list; None if there are none."""
    sums = sums_of(fault)
    spread = octet_product(sums[1], sums[1]) ^ octet_product(sums[0], sums[2])
    if spread == 0:
        return one_change(sums, length)
    return two_changes(sums, length, spread)


def is_block(value):
    """Whether a value is octets that may be a guarded block."""
    return is_octets(value, 1 + MANY_CHECKS, MOST_GUARDED + MANY_CHECKS)


def block_of(octets):
    """The guarded block of octets that surely may have one."""
    return octets + eight_octets(check_number(octets))


def octets_of(block):
    """What mended returns for what surely is a block."""
    fault = check_number(block[:-MANY_CHECKS]) ^ as_number(block[-MANY_CHECKS:])
    if fault == 0:
        return block[:-MANY_CHECKS]
    changes = changes_of(fault, len(block))
    if changes is None:
        return None
    good = list(block)
    for power, change in changes:
        good[-1 - power] ^= change
    return tuple(good[:-MANY_CHECKS])


def guarded(octets):
    """The octets with eight check octets behind them."""
    if not is_octets(octets, 1, MOST_GUARDED):
        raise BadOctets("not 1 to 100 octets")
    return block_of(octets)


def mended(block):
    """The octets of the guarded block from which a block differs at no more than two places, or None."""
    if not is_block(block):
        raise BadOctets("not a block of 9 to 108 octets")
    return octets_of(block)
